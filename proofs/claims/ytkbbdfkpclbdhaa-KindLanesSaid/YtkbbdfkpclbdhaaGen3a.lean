/-
  What the functions compute, and that they do (part 1 of 3).
-/
import Derived.Test.YtkbbdfkpclbdhaaFrz
import Derived.Test.YtkbbdfkpclbdhaaProg
namespace Go.Proofs.Ytkbbdfkpclbdhaa
open Go Go.RowKit
set_option linter.unusedVariables false
set_option maxRecDepth 100000
set_option maxHeartbeats 2000000
def eI64 (x : Int) : List AV := [(.int .i64 x)]
def eLI64 (x : List (Int)) : List AV := [(AV.list 1 eI64 (0 : Int) x .none)]
def eU64 (x : Int) : List AV := [(.int .u64 x)]
structure TOp where
  Kind : Int
  Bits : Int
  Lanes : Int
  Dst : Int
  Args : List (Int)
  Imm : Int
  deriving Inhabited, DecidableEq
def eTOp (x : TOp) : List AV := [(.int .i64 x.Kind), (.int .i64 x.Bits), (.int .i64 x.Lanes), (.int .i64 x.Dst), (AV.list 1 eI64 (0 : Int) x.Args .none), (.int .u64 x.Imm)]
def eA2I64 (x : (Int × Int)) : List AV := [(.int .i64 x.1), (.int .i64 x.2)]
theorem mix : Try.prog.follows .mixedOrders = true := by kernel_rfl
noncomputable def m_kind_isKind (a_kind : Int) : Option Bool :=
  (some (bif (decide (((0 : Int) : Int) ≤ a_kind)) then (decide ((a_kind : Int) ≤ (22 : Int))) else false))
theorem ok_kind_isKind (a_kind : Int) (r : Bool) (h : m_kind_isKind a_kind = some r) : Spec Try.prog 24 [(.int .i64 a_kind)] [] (.bool r) [] := by
  refine spec_of_awp (fn := Try.f24) Try.func24 rfl rfl (by kernel_rfl) (fun Γ hn hΓ => ?_)
  have hn : Γ.n = 9 := hn
  unfold m_kind_isKind at h
  refine awp_seq ?_
  refine awp_region (rs := []) (cs := []) (live := [0]) (names := []) (st' := (⟨[(0, (.int .i64 a_kind))], []⟩ : St)) (obs := []) hn mix (no_hand hΓ) (by kernel_rfl) trivial ?_
  refine then_normal ?_
  refine awp_seq ?_
  refine awp_region (rs := []) (cs := []) (live := [2]) (names := []) (st' := (⟨[(2, (.bool (bif (decide (((0 : Int) : Int) ≤ a_kind)) then (decide ((a_kind : Int) ≤ (22 : Int))) else false)))], []⟩ : St)) (obs := [(((decide (((0 : Int) : Int) ≤ a_kind)) == true) = true → ((decide (((0 : Int) : Int) ≤ a_kind)) == true) = true), ((decide (((0 : Int) : Int) ≤ a_kind)) = true → ((decide (((0 : Int) : Int) ≤ a_kind)) == true) = true)]) hn mix (no_hand hΓ) (by kernel_rfl) ⟨(fun hg => hg), (fun hp => by rw [hp]; rfl), trivial⟩ ?_
  refine then_normal ?_
  refine awp_ret ?_
  obtain rfl := Option.some.inj h
  exact ⟨.inl rfl, [], by kernel_rfl⟩

noncomputable def m_word_May (a_bits : Int) : Option Bool :=
  (Option.bind (α := Bool) (bif ((a_bits : Int) == (1 : Int)) then (some (((a_bits : Int) == (1 : Int)))) else (bif ((a_bits : Int) == (8 : Int)) then (some (((a_bits : Int) == (8 : Int)))) else (bif ((a_bits : Int) == (16 : Int)) then (some (((a_bits : Int) == (16 : Int)))) else (bif ((a_bits : Int) == (32 : Int)) then (some (((a_bits : Int) == (32 : Int)))) else (some (((a_bits : Int) == (64 : Int)))))))) (fun x2 => ((bif x2 then (some true) else (some false)))))
theorem ok_word_May (a_bits : Int) (r : Bool) (h : m_word_May a_bits = some r) : Spec Try.prog 33 [(.int .i64 a_bits)] [] (.bool r) [] := by
  refine spec_of_awp (fn := Try.f33) Try.func33 rfl rfl (by kernel_rfl) (fun Γ hn hΓ => ?_)
  have hn : Γ.n = 10 := hn
  unfold m_word_May at h
  refine awp_seq ?_
  refine awp_region (rs := []) (cs := []) (live := [0]) (names := []) (st' := (⟨[(0, (.int .i64 a_bits))], []⟩ : St)) (obs := []) hn mix (no_hand hΓ) (by kernel_rfl) trivial ?_
  refine then_normal ?_
  refine awp_seq ?_
  refine awp_seq ?_
  refine awp_region (rs := []) (cs := []) (live := [3]) (names := []) (st' := (⟨[(3, (.int .i64 a_bits))], []⟩ : St)) (obs := []) hn mix (no_hand hΓ) (by kernel_rfl) trivial ?_
  refine then_normal ?_
  refine awp_block ?_
  refine awp_seq ?_
  obtain ⟨x2, hx2, h⟩ := bind_some h
  refine awp_join (fun (b1 : Bool) (e : Exit) (st : St) => e = .normal ∧ Le Γ st (⟨[(4, (.bool b1))], []⟩ : St)) hx2 ?_ ?_
  · clear h hx2
    intro y h
    refine awp_seq ?_
    refine awp_region (rs := []) (cs := []) (live := [3, 4]) (names := []) (st' := (⟨[(3, (.int .i64 a_bits)), (4, (.bool ((a_bits : Int) == (1 : Int))))], []⟩ : St)) (obs := []) hn mix (no_hand hΓ) (by kernel_rfl) trivial ?_
    refine then_normal ?_
    refine awp_cond ((a_bits : Int) == (1 : Int)) (by kernel_rfl) (fun hb => ?_) (fun hb => ?_)
    · replace h := cond_t hb h
      clear hb
      refine awp_skip ?_
      obtain rfl := Option.some.inj h
      exact ⟨rfl, le_restrict_eq [4] [] (by kernel_rfl) (no_hand hΓ)⟩
    · replace h := cond_f hb h
      clear hb
      refine awp_seq ?_
      refine awp_region (rs := []) (cs := []) (live := [3, 4]) (names := []) (st' := (⟨[(3, (.int .i64 a_bits)), (4, (.bool ((a_bits : Int) == (8 : Int))))], []⟩ : St)) (obs := []) hn mix (no_hand hΓ) (by kernel_rfl) trivial ?_
      refine then_normal ?_
      refine awp_cond ((a_bits : Int) == (8 : Int)) (by kernel_rfl) (fun hb => ?_) (fun hb => ?_)
      · replace h := cond_t hb h
        clear hb
        refine awp_skip ?_
        obtain rfl := Option.some.inj h
        exact ⟨rfl, le_restrict_eq [4] [] (by kernel_rfl) (no_hand hΓ)⟩
      · replace h := cond_f hb h
        clear hb
        refine awp_seq ?_
        refine awp_region (rs := []) (cs := []) (live := [3, 4]) (names := []) (st' := (⟨[(3, (.int .i64 a_bits)), (4, (.bool ((a_bits : Int) == (16 : Int))))], []⟩ : St)) (obs := []) hn mix (no_hand hΓ) (by kernel_rfl) trivial ?_
        refine then_normal ?_
        refine awp_cond ((a_bits : Int) == (16 : Int)) (by kernel_rfl) (fun hb => ?_) (fun hb => ?_)
        · replace h := cond_t hb h
          clear hb
          refine awp_skip ?_
          obtain rfl := Option.some.inj h
          exact ⟨rfl, le_restrict_eq [4] [] (by kernel_rfl) (no_hand hΓ)⟩
        · replace h := cond_f hb h
          clear hb
          refine awp_seq ?_
          refine awp_region (rs := []) (cs := []) (live := [3, 4]) (names := []) (st' := (⟨[(3, (.int .i64 a_bits)), (4, (.bool ((a_bits : Int) == (32 : Int))))], []⟩ : St)) (obs := []) hn mix (no_hand hΓ) (by kernel_rfl) trivial ?_
          refine then_normal ?_
          refine awp_cond ((a_bits : Int) == (32 : Int)) (by kernel_rfl) (fun hb => ?_) (fun hb => ?_)
          · replace h := cond_t hb h
            clear hb
            refine awp_skip ?_
            obtain rfl := Option.some.inj h
            exact ⟨rfl, le_restrict_eq [4] [] (by kernel_rfl) (no_hand hΓ)⟩
          · replace h := cond_f hb h
            clear hb
            refine awp_region (rs := []) (cs := []) (live := [4]) (names := []) (st' := (⟨[(4, (.bool ((a_bits : Int) == (64 : Int))))], []⟩ : St)) (obs := []) hn mix (no_hand hΓ) (by kernel_rfl) trivial ?_
            obtain rfl := Option.some.inj h
            exact ⟨rfl, Le.refl _ _⟩
  · clear hx2
    rintro e st' ⟨rfl, hl3⟩
    refine then_normal ?_
    refine awp_le hl3 ?_
    refine awp_cond x2 (by kernel_rfl) (fun hb => ?_) (fun hb => ?_)
    · replace h := cond_t hb h
      clear hb
      refine awp_seq ?_
      refine awp_region (rs := []) (cs := []) (live := [2]) (names := []) (st' := (⟨[(2, (.bool true))], []⟩ : St)) (obs := []) hn mix (no_hand hΓ) (by kernel_rfl) trivial ?_
      refine then_normal ?_
      refine awp_ret ?_
      refine block_ret ?_
      refine then_ret ?_
      obtain rfl := Option.some.inj h
      exact ⟨.inl rfl, [], by kernel_rfl⟩
    · replace h := cond_f hb h
      clear hb
      refine awp_skip ?_
      refine block_normal ?_
      refine then_normal ?_
      refine awp_seq ?_
      refine awp_region (rs := []) (cs := []) (live := [2]) (names := []) (st' := (⟨[(2, (.bool false))], []⟩ : St)) (obs := []) hn mix (no_hand hΓ) (by kernel_rfl) trivial ?_
      refine then_normal ?_
      refine awp_ret ?_
      obtain rfl := Option.some.inj h
      exact ⟨.inl rfl, [], by kernel_rfl⟩

noncomputable def m_kind_Shape (a_bits : Int) (a_lanes : Int) : Option Bool :=
  (bif ((a_lanes : Int) == (1 : Int)) then ((m_word_May a_bits).bind fun x1 => (some x1)) else (Option.bind (α := Bool) (bif ((a_lanes : Int) == (2 : Int)) then (some (((a_lanes : Int) == (2 : Int)))) else (bif ((a_lanes : Int) == (4 : Int)) then (some (((a_lanes : Int) == (4 : Int)))) else (bif ((a_lanes : Int) == (8 : Int)) then (some (((a_lanes : Int) == (8 : Int)))) else (some (((a_lanes : Int) == (16 : Int))))))) (fun x3 => ((bif x3 then ((m_word_May a_bits).bind fun x5 => (some (bif (bif x5 then (decide (((8 : Int) : Int) ≤ a_bits)) else false) then (decide (((w64 (a_bits * a_lanes)) : Int) ≤ (128 : Int))) else false))) else (some false))))))
theorem ok_kind_Shape (a_bits : Int) (a_lanes : Int) (r : Bool) (h : m_kind_Shape a_bits a_lanes = some r) : Spec Try.prog 17 [(.int .i64 a_bits), (.int .i64 a_lanes)] [] (.bool r) [] := by
  refine spec_of_awp (fn := Try.f17) Try.func17 rfl rfl (by kernel_rfl) (fun Γ hn hΓ => ?_)
  have hn : Γ.n = 27 := hn
  unfold m_kind_Shape at h
  refine awp_seq ?_
  refine awp_region (rs := []) (cs := []) (live := [0, 1]) (names := []) (st' := (⟨[(0, (.int .i64 a_bits)), (1, (.int .i64 a_lanes))], []⟩ : St)) (obs := []) hn mix (no_hand hΓ) (by kernel_rfl) trivial ?_
  refine then_normal ?_
  refine awp_seq ?_
  refine awp_seq ?_
  refine awp_region (rs := []) (cs := []) (live := [0, 1, 5]) (names := []) (st' := (⟨[(0, (.int .i64 a_bits)), (1, (.int .i64 a_lanes)), (5, (.int .i64 a_lanes))], []⟩ : St)) (obs := []) hn mix (no_hand hΓ) (by kernel_rfl) trivial ?_
  refine then_normal ?_
  refine awp_block ?_
  refine awp_seq ?_
  refine awp_region (rs := []) (cs := []) (live := [0, 1, 5, 6]) (names := []) (st' := (⟨[(0, (.int .i64 a_bits)), (1, (.int .i64 a_lanes)), (5, (.int .i64 a_lanes)), (6, (.bool ((a_lanes : Int) == (1 : Int))))], []⟩ : St)) (obs := []) hn mix (no_hand hΓ) (by kernel_rfl) trivial ?_
  refine then_normal ?_
  refine awp_cond ((a_lanes : Int) == (1 : Int)) (by kernel_rfl) (fun hb => ?_) (fun hb => ?_)
  · replace h := cond_t hb h
    clear hb
    refine awp_seq ?_
    obtain ⟨x1, hx1, h⟩ := bind_some h
    refine awp_region (rs := [⟨[], [], (.bool x1), []⟩]) (cs := []) (live := [4]) (names := []) (st' := (⟨[(4, (.bool x1))], []⟩ : St)) (obs := [(Spec Try.prog 33 [(.int .i64 a_bits)] [] (.bool x1) [])]) hn mix (no_hand hΓ) (by kernel_rfl) ⟨(ok_word_May a_bits x1 hx1), trivial⟩ ?_
    refine then_normal ?_
    refine awp_ret ?_
    refine block_ret ?_
    refine then_ret ?_
    obtain rfl := Option.some.inj h
    exact ⟨.inl rfl, [], by kernel_rfl⟩
  · replace h := cond_f hb h
    clear hb
    refine awp_seq ?_
    obtain ⟨x3, hx3, h⟩ := bind_some h
    refine awp_join (fun (b2 : Bool) (e : Exit) (st : St) => e = .normal ∧ Le Γ st (⟨[(0, (.int .i64 a_bits)), (1, (.int .i64 a_lanes)), (10, (.bool b2))], []⟩ : St)) hx3 ?_ ?_
    · clear h hx3
      intro y h
      refine awp_seq ?_
      refine awp_region (rs := []) (cs := []) (live := [0, 1, 5, 10]) (names := []) (st' := (⟨[(0, (.int .i64 a_bits)), (1, (.int .i64 a_lanes)), (5, (.int .i64 a_lanes)), (10, (.bool ((a_lanes : Int) == (2 : Int))))], []⟩ : St)) (obs := []) hn mix (no_hand hΓ) (by kernel_rfl) trivial ?_
      refine then_normal ?_
      refine awp_cond ((a_lanes : Int) == (2 : Int)) (by kernel_rfl) (fun hb => ?_) (fun hb => ?_)
      · replace h := cond_t hb h
        clear hb
        refine awp_skip ?_
        obtain rfl := Option.some.inj h
        exact ⟨rfl, le_restrict_eq [0, 1, 10] [] (by kernel_rfl) (no_hand hΓ)⟩
      · replace h := cond_f hb h
        clear hb
        refine awp_seq ?_
        refine awp_region (rs := []) (cs := []) (live := [0, 1, 5, 10]) (names := []) (st' := (⟨[(0, (.int .i64 a_bits)), (1, (.int .i64 a_lanes)), (5, (.int .i64 a_lanes)), (10, (.bool ((a_lanes : Int) == (4 : Int))))], []⟩ : St)) (obs := []) hn mix (no_hand hΓ) (by kernel_rfl) trivial ?_
        refine then_normal ?_
        refine awp_cond ((a_lanes : Int) == (4 : Int)) (by kernel_rfl) (fun hb => ?_) (fun hb => ?_)
        · replace h := cond_t hb h
          clear hb
          refine awp_skip ?_
          obtain rfl := Option.some.inj h
          exact ⟨rfl, le_restrict_eq [0, 1, 10] [] (by kernel_rfl) (no_hand hΓ)⟩
        · replace h := cond_f hb h
          clear hb
          refine awp_seq ?_
          refine awp_region (rs := []) (cs := []) (live := [0, 1, 5, 10]) (names := []) (st' := (⟨[(0, (.int .i64 a_bits)), (1, (.int .i64 a_lanes)), (5, (.int .i64 a_lanes)), (10, (.bool ((a_lanes : Int) == (8 : Int))))], []⟩ : St)) (obs := []) hn mix (no_hand hΓ) (by kernel_rfl) trivial ?_
          refine then_normal ?_
          refine awp_cond ((a_lanes : Int) == (8 : Int)) (by kernel_rfl) (fun hb => ?_) (fun hb => ?_)
          · replace h := cond_t hb h
            clear hb
            refine awp_skip ?_
            obtain rfl := Option.some.inj h
            exact ⟨rfl, le_restrict_eq [0, 1, 10] [] (by kernel_rfl) (no_hand hΓ)⟩
          · replace h := cond_f hb h
            clear hb
            refine awp_region (rs := []) (cs := []) (live := [0, 1, 10]) (names := []) (st' := (⟨[(0, (.int .i64 a_bits)), (1, (.int .i64 a_lanes)), (10, (.bool ((a_lanes : Int) == (16 : Int))))], []⟩ : St)) (obs := []) hn mix (no_hand hΓ) (by kernel_rfl) trivial ?_
            obtain rfl := Option.some.inj h
            exact ⟨rfl, Le.refl _ _⟩
    · clear hx3
      rintro e st' ⟨rfl, hl4⟩
      refine then_normal ?_
      refine awp_le hl4 ?_
      refine awp_cond x3 (by kernel_rfl) (fun hb => ?_) (fun hb => ?_)
      · replace h := cond_t hb h
        clear hb
        refine awp_seq ?_
        obtain ⟨x5, hx5, h⟩ := bind_some h
        refine awp_region (rs := [⟨[], [], (.bool x5), []⟩]) (cs := []) (live := [4]) (names := []) (st' := (⟨[(4, (.bool (bif (bif x5 then (decide (((8 : Int) : Int) ≤ a_bits)) else false) then (decide (((w64 (a_bits * a_lanes)) : Int) ≤ (128 : Int))) else false)))], []⟩ : St)) (obs := [(Spec Try.prog 33 [(.int .i64 a_bits)] [] (.bool x5) []), ((x5 == true) = true → (x5 == true) = true), (x5 = true → (x5 == true) = true), (((bif x5 then (decide (((8 : Int) : Int) ≤ a_bits)) else false) == true) = true → ((bif x5 then (decide (((8 : Int) : Int) ≤ a_bits)) else false) == true) = true), (((bif x5 then (decide (((8 : Int) : Int) ≤ a_bits)) else false) == true) = true → ((bif x5 then (decide (((8 : Int) : Int) ≤ a_bits)) else false) == true) = true), (((bif x5 then (decide (((8 : Int) : Int) ≤ a_bits)) else false) == true) = true → ((bif x5 then (decide (((8 : Int) : Int) ≤ a_bits)) else false) == true) = true), ((bif x5 then (decide (((8 : Int) : Int) ≤ a_bits)) else false) = true → ((bif x5 then (decide (((8 : Int) : Int) ≤ a_bits)) else false) == true) = true)]) hn mix (no_hand hΓ) (by kernel_rfl) ⟨(ok_word_May a_bits x5 hx5), (fun hg => hg), (fun hp => by rw [hp]; rfl), (fun hg => hg), (fun hg => hg), (fun hg => hg), (fun hp => by rw [hp]; rfl), trivial⟩ ?_
        refine then_normal ?_
        refine awp_ret ?_
        refine block_ret ?_
        refine then_ret ?_
        obtain rfl := Option.some.inj h
        exact ⟨.inl rfl, [], by kernel_rfl⟩
      · replace h := cond_f hb h
        clear hb
        refine awp_skip ?_
        refine block_normal ?_
        refine then_normal ?_
        refine awp_seq ?_
        refine awp_region (rs := []) (cs := []) (live := [4]) (names := []) (st' := (⟨[(4, (.bool false))], []⟩ : St)) (obs := []) hn mix (no_hand hΓ) (by kernel_rfl) trivial ?_
        refine then_normal ?_
        refine awp_ret ?_
        obtain rfl := Option.some.inj h
        exact ⟨.inl rfl, [], by kernel_rfl⟩

noncomputable def m_kind_shapeFits (a_o : TOp) : Option Bool :=
  (Option.bind (α := Bool) (bif ((a_o.Kind : Int) == (16 : Int)) then (some (((a_o.Kind : Int) == (16 : Int)))) else (some (((a_o.Kind : Int) == (17 : Int))))) (fun x2 => ((bif x2 then (some (decide (((8 : Int) : Int) ≤ a_o.Bits))) else (Option.bind (α := Bool) (bif ((a_o.Kind : Int) == (18 : Int)) then (some (((a_o.Kind : Int) == (18 : Int)))) else (some (((a_o.Kind : Int) == (19 : Int))))) (fun x5 => ((bif x5 then (some (bif (decide (((8 : Int) : Int) ≤ a_o.Bits)) then ((a_o.Lanes : Int) == (1 : Int)) else false)) else (Option.bind (α := Bool) (bif ((a_o.Kind : Int) == (4 : Int)) then (some (((a_o.Kind : Int) == (4 : Int)))) else (bif ((a_o.Kind : Int) == (10 : Int)) then (some (((a_o.Kind : Int) == (10 : Int)))) else (bif ((a_o.Kind : Int) == (11 : Int)) then (some (((a_o.Kind : Int) == (11 : Int)))) else (bif ((a_o.Kind : Int) == (12 : Int)) then (some (((a_o.Kind : Int) == (12 : Int)))) else (bif ((a_o.Kind : Int) == (14 : Int)) then (some (((a_o.Kind : Int) == (14 : Int)))) else (bif ((a_o.Kind : Int) == (15 : Int)) then (some (((a_o.Kind : Int) == (15 : Int)))) else (some (((a_o.Kind : Int) == (20 : Int)))))))))) (fun x8 => ((bif x8 then (some ((a_o.Lanes : Int) == (1 : Int))) else (Option.bind (α := Bool) (bif ((a_o.Kind : Int) == (21 : Int)) then (some (((a_o.Kind : Int) == (21 : Int)))) else (some (((a_o.Kind : Int) == (22 : Int))))) (fun x11 => ((bif x11 then (some (decide (((1 : Int) : Int) < a_o.Lanes))) else (some true)))))))))))))))))
theorem ok_kind_shapeFits (a_o : TOp) (r : Bool) (h : m_kind_shapeFits a_o = some r) : Spec Try.prog 25 [(.agg (eTOp a_o))] [] (.bool r) [] := by
  refine spec_of_awp (fn := Try.f25) Try.func25 rfl rfl (by kernel_rfl) (fun Γ hn hΓ => ?_)
  have hn : Γ.n = 39 := hn
  unfold m_kind_shapeFits at h
  refine awp_seq ?_
  refine awp_region (rs := []) (cs := []) (live := [1]) (names := [1]) (st' := (⟨[(1, (.ptr 1 0))], [(1, .row [(.int .i64 a_o.Kind), (.int .i64 a_o.Bits), (.int .i64 a_o.Lanes), (.int .i64 a_o.Dst), (AV.list 1 eI64 (0 : Int) a_o.Args .none), (.int .u64 a_o.Imm)])]⟩ : St)) (obs := []) hn mix (no_hand hΓ) (by kernel_rfl) trivial ?_
  refine then_normal ?_
  refine awp_seq ?_
  refine awp_seq ?_
  refine awp_region (rs := []) (cs := []) (live := [1, 4]) (names := [1]) (st' := (⟨[(1, (.ptr 1 0)), (4, (.int .i64 a_o.Kind))], [(1, .row [(.int .i64 a_o.Kind), (.int .i64 a_o.Bits), (.int .i64 a_o.Lanes), (.int .i64 a_o.Dst), (AV.list 1 eI64 (0 : Int) a_o.Args .none), (.int .u64 a_o.Imm)])]⟩ : St)) (obs := [(0 < List.length (α := AV) [(.int .i64 a_o.Kind), (.int .i64 a_o.Bits), (.int .i64 a_o.Lanes), (.int .i64 a_o.Dst), (AV.list 1 eI64 (0 : Int) a_o.Args .none), (.int .u64 a_o.Imm)])]) hn mix (no_hand hΓ) (by kernel_rfl) ⟨(Nat.le_of_ble_eq_true rfl), trivial⟩ ?_
  refine then_normal ?_
  refine awp_block ?_
  refine awp_seq ?_
  obtain ⟨x2, hx2, h⟩ := bind_some h
  refine awp_join (fun (b1 : Bool) (e : Exit) (st : St) => e = .normal ∧ Le Γ st (⟨[(1, (.ptr 1 0)), (4, (.int .i64 a_o.Kind)), (5, (.bool b1))], [(1, .row [(.int .i64 a_o.Kind), (.int .i64 a_o.Bits), (.int .i64 a_o.Lanes), (.int .i64 a_o.Dst), (AV.list 1 eI64 (0 : Int) a_o.Args .none), (.int .u64 a_o.Imm)])]⟩ : St)) hx2 ?_ ?_
  · clear h hx2
    intro y h
    refine awp_seq ?_
    refine awp_region (rs := []) (cs := []) (live := [1, 4, 5]) (names := [1]) (st' := (⟨[(1, (.ptr 1 0)), (4, (.int .i64 a_o.Kind)), (5, (.bool ((a_o.Kind : Int) == (16 : Int))))], [(1, .row [(.int .i64 a_o.Kind), (.int .i64 a_o.Bits), (.int .i64 a_o.Lanes), (.int .i64 a_o.Dst), (AV.list 1 eI64 (0 : Int) a_o.Args .none), (.int .u64 a_o.Imm)])]⟩ : St)) (obs := []) hn mix (no_hand hΓ) (by kernel_rfl) trivial ?_
    refine then_normal ?_
    refine awp_cond ((a_o.Kind : Int) == (16 : Int)) (by kernel_rfl) (fun hb => ?_) (fun hb => ?_)
    · replace h := cond_t hb h
      clear hb
      refine awp_skip ?_
      obtain rfl := Option.some.inj h
      exact ⟨rfl, Le.refl _ _⟩
    · replace h := cond_f hb h
      clear hb
      refine awp_region (rs := []) (cs := []) (live := [1, 4, 5]) (names := [1]) (st' := (⟨[(1, (.ptr 1 0)), (4, (.int .i64 a_o.Kind)), (5, (.bool ((a_o.Kind : Int) == (17 : Int))))], [(1, .row [(.int .i64 a_o.Kind), (.int .i64 a_o.Bits), (.int .i64 a_o.Lanes), (.int .i64 a_o.Dst), (AV.list 1 eI64 (0 : Int) a_o.Args .none), (.int .u64 a_o.Imm)])]⟩ : St)) (obs := []) hn mix (no_hand hΓ) (by kernel_rfl) trivial ?_
      obtain rfl := Option.some.inj h
      exact ⟨rfl, Le.refl _ _⟩
  · clear hx2
    rintro e st' ⟨rfl, hl3⟩
    refine then_normal ?_
    refine awp_le hl3 ?_
    refine awp_cond x2 (by kernel_rfl) (fun hb => ?_) (fun hb => ?_)
    · replace h := cond_t hb h
      clear hb
      refine awp_seq ?_
      refine awp_region (rs := []) (cs := []) (live := [2]) (names := []) (st' := (⟨[(2, (.bool (decide (((8 : Int) : Int) ≤ a_o.Bits))))], []⟩ : St)) (obs := [(1 < List.length (α := AV) [(.int .i64 a_o.Kind), (.int .i64 a_o.Bits), (.int .i64 a_o.Lanes), (.int .i64 a_o.Dst), (AV.list 1 eI64 (0 : Int) a_o.Args .none), (.int .u64 a_o.Imm)])]) hn mix (no_hand hΓ) (by kernel_rfl) ⟨(Nat.le_of_ble_eq_true rfl), trivial⟩ ?_
      refine then_normal ?_
      refine awp_ret ?_
      refine block_ret ?_
      refine then_ret ?_
      obtain rfl := Option.some.inj h
      exact ⟨.inl rfl, [], by kernel_rfl⟩
    · replace h := cond_f hb h
      clear hb
      refine awp_seq ?_
      obtain ⟨x5, hx5, h⟩ := bind_some h
      refine awp_join (fun (b4 : Bool) (e : Exit) (st : St) => e = .normal ∧ Le Γ st (⟨[(1, (.ptr 1 0)), (4, (.int .i64 a_o.Kind)), (11, (.bool b4))], [(1, .row [(.int .i64 a_o.Kind), (.int .i64 a_o.Bits), (.int .i64 a_o.Lanes), (.int .i64 a_o.Dst), (AV.list 1 eI64 (0 : Int) a_o.Args .none), (.int .u64 a_o.Imm)])]⟩ : St)) hx5 ?_ ?_
      · clear h hx5
        intro y h
        refine awp_seq ?_
        refine awp_region (rs := []) (cs := []) (live := [1, 4, 11]) (names := [1]) (st' := (⟨[(1, (.ptr 1 0)), (4, (.int .i64 a_o.Kind)), (11, (.bool ((a_o.Kind : Int) == (18 : Int))))], [(1, .row [(.int .i64 a_o.Kind), (.int .i64 a_o.Bits), (.int .i64 a_o.Lanes), (.int .i64 a_o.Dst), (AV.list 1 eI64 (0 : Int) a_o.Args .none), (.int .u64 a_o.Imm)])]⟩ : St)) (obs := []) hn mix (no_hand hΓ) (by kernel_rfl) trivial ?_
        refine then_normal ?_
        refine awp_cond ((a_o.Kind : Int) == (18 : Int)) (by kernel_rfl) (fun hb => ?_) (fun hb => ?_)
        · replace h := cond_t hb h
          clear hb
          refine awp_skip ?_
          obtain rfl := Option.some.inj h
          exact ⟨rfl, Le.refl _ _⟩
        · replace h := cond_f hb h
          clear hb
          refine awp_region (rs := []) (cs := []) (live := [1, 4, 11]) (names := [1]) (st' := (⟨[(1, (.ptr 1 0)), (4, (.int .i64 a_o.Kind)), (11, (.bool ((a_o.Kind : Int) == (19 : Int))))], [(1, .row [(.int .i64 a_o.Kind), (.int .i64 a_o.Bits), (.int .i64 a_o.Lanes), (.int .i64 a_o.Dst), (AV.list 1 eI64 (0 : Int) a_o.Args .none), (.int .u64 a_o.Imm)])]⟩ : St)) (obs := []) hn mix (no_hand hΓ) (by kernel_rfl) trivial ?_
          obtain rfl := Option.some.inj h
          exact ⟨rfl, Le.refl _ _⟩
      · clear hx5
        rintro e st' ⟨rfl, hl6⟩
        refine then_normal ?_
        refine awp_le hl6 ?_
        refine awp_cond x5 (by kernel_rfl) (fun hb => ?_) (fun hb => ?_)
        · replace h := cond_t hb h
          clear hb
          refine awp_seq ?_
          refine awp_region (rs := []) (cs := []) (live := [2]) (names := []) (st' := (⟨[(2, (.bool (bif (decide (((8 : Int) : Int) ≤ a_o.Bits)) then ((a_o.Lanes : Int) == (1 : Int)) else false)))], []⟩ : St)) (obs := [(1 < List.length (α := AV) [(.int .i64 a_o.Kind), (.int .i64 a_o.Bits), (.int .i64 a_o.Lanes), (.int .i64 a_o.Dst), (AV.list 1 eI64 (0 : Int) a_o.Args .none), (.int .u64 a_o.Imm)]), (((decide (((8 : Int) : Int) ≤ a_o.Bits)) == true) = true → ((decide (((8 : Int) : Int) ≤ a_o.Bits)) == true) = true), (((decide (((8 : Int) : Int) ≤ a_o.Bits)) == true) = true → (2 < List.length (α := AV) [(.int .i64 a_o.Kind), (.int .i64 a_o.Bits), (.int .i64 a_o.Lanes), (.int .i64 a_o.Dst), (AV.list 1 eI64 (0 : Int) a_o.Args .none), (.int .u64 a_o.Imm)])), (((decide (((8 : Int) : Int) ≤ a_o.Bits)) == true) = true → ((decide (((8 : Int) : Int) ≤ a_o.Bits)) == true) = true), ((decide (((8 : Int) : Int) ≤ a_o.Bits)) = true → ((decide (((8 : Int) : Int) ≤ a_o.Bits)) == true) = true)]) hn mix (no_hand hΓ) (by kernel_rfl) ⟨(Nat.le_of_ble_eq_true rfl), (fun hg => hg), (fun hg => (Nat.le_of_ble_eq_true rfl)), (fun hg => hg), (fun hp => by rw [hp]; rfl), trivial⟩ ?_
          refine then_normal ?_
          refine awp_ret ?_
          refine block_ret ?_
          refine then_ret ?_
          obtain rfl := Option.some.inj h
          exact ⟨.inl rfl, [], by kernel_rfl⟩
        · replace h := cond_f hb h
          clear hb
          refine awp_seq ?_
          obtain ⟨x8, hx8, h⟩ := bind_some h
          refine awp_join (fun (b7 : Bool) (e : Exit) (st : St) => e = .normal ∧ Le Γ st (⟨[(1, (.ptr 1 0)), (4, (.int .i64 a_o.Kind)), (22, (.bool b7))], [(1, .row [(.int .i64 a_o.Kind), (.int .i64 a_o.Bits), (.int .i64 a_o.Lanes), (.int .i64 a_o.Dst), (AV.list 1 eI64 (0 : Int) a_o.Args .none), (.int .u64 a_o.Imm)])]⟩ : St)) hx8 ?_ ?_
          · clear h hx8
            intro y h
            refine awp_seq ?_
            refine awp_region (rs := []) (cs := []) (live := [1, 4, 22]) (names := [1]) (st' := (⟨[(1, (.ptr 1 0)), (4, (.int .i64 a_o.Kind)), (22, (.bool ((a_o.Kind : Int) == (4 : Int))))], [(1, .row [(.int .i64 a_o.Kind), (.int .i64 a_o.Bits), (.int .i64 a_o.Lanes), (.int .i64 a_o.Dst), (AV.list 1 eI64 (0 : Int) a_o.Args .none), (.int .u64 a_o.Imm)])]⟩ : St)) (obs := []) hn mix (no_hand hΓ) (by kernel_rfl) trivial ?_
            refine then_normal ?_
            refine awp_cond ((a_o.Kind : Int) == (4 : Int)) (by kernel_rfl) (fun hb => ?_) (fun hb => ?_)
            · replace h := cond_t hb h
              clear hb
              refine awp_skip ?_
              obtain rfl := Option.some.inj h
              exact ⟨rfl, Le.refl _ _⟩
            · replace h := cond_f hb h
              clear hb
              refine awp_seq ?_
              refine awp_region (rs := []) (cs := []) (live := [1, 4, 22]) (names := [1]) (st' := (⟨[(1, (.ptr 1 0)), (4, (.int .i64 a_o.Kind)), (22, (.bool ((a_o.Kind : Int) == (10 : Int))))], [(1, .row [(.int .i64 a_o.Kind), (.int .i64 a_o.Bits), (.int .i64 a_o.Lanes), (.int .i64 a_o.Dst), (AV.list 1 eI64 (0 : Int) a_o.Args .none), (.int .u64 a_o.Imm)])]⟩ : St)) (obs := []) hn mix (no_hand hΓ) (by kernel_rfl) trivial ?_
              refine then_normal ?_
              refine awp_cond ((a_o.Kind : Int) == (10 : Int)) (by kernel_rfl) (fun hb => ?_) (fun hb => ?_)
              · replace h := cond_t hb h
                clear hb
                refine awp_skip ?_
                obtain rfl := Option.some.inj h
                exact ⟨rfl, Le.refl _ _⟩
              · replace h := cond_f hb h
                clear hb
                refine awp_seq ?_
                refine awp_region (rs := []) (cs := []) (live := [1, 4, 22]) (names := [1]) (st' := (⟨[(1, (.ptr 1 0)), (4, (.int .i64 a_o.Kind)), (22, (.bool ((a_o.Kind : Int) == (11 : Int))))], [(1, .row [(.int .i64 a_o.Kind), (.int .i64 a_o.Bits), (.int .i64 a_o.Lanes), (.int .i64 a_o.Dst), (AV.list 1 eI64 (0 : Int) a_o.Args .none), (.int .u64 a_o.Imm)])]⟩ : St)) (obs := []) hn mix (no_hand hΓ) (by kernel_rfl) trivial ?_
                refine then_normal ?_
                refine awp_cond ((a_o.Kind : Int) == (11 : Int)) (by kernel_rfl) (fun hb => ?_) (fun hb => ?_)
                · replace h := cond_t hb h
                  clear hb
                  refine awp_skip ?_
                  obtain rfl := Option.some.inj h
                  exact ⟨rfl, Le.refl _ _⟩
                · replace h := cond_f hb h
                  clear hb
                  refine awp_seq ?_
                  refine awp_region (rs := []) (cs := []) (live := [1, 4, 22]) (names := [1]) (st' := (⟨[(1, (.ptr 1 0)), (4, (.int .i64 a_o.Kind)), (22, (.bool ((a_o.Kind : Int) == (12 : Int))))], [(1, .row [(.int .i64 a_o.Kind), (.int .i64 a_o.Bits), (.int .i64 a_o.Lanes), (.int .i64 a_o.Dst), (AV.list 1 eI64 (0 : Int) a_o.Args .none), (.int .u64 a_o.Imm)])]⟩ : St)) (obs := []) hn mix (no_hand hΓ) (by kernel_rfl) trivial ?_
                  refine then_normal ?_
                  refine awp_cond ((a_o.Kind : Int) == (12 : Int)) (by kernel_rfl) (fun hb => ?_) (fun hb => ?_)
                  · replace h := cond_t hb h
                    clear hb
                    refine awp_skip ?_
                    obtain rfl := Option.some.inj h
                    exact ⟨rfl, Le.refl _ _⟩
                  · replace h := cond_f hb h
                    clear hb
                    refine awp_seq ?_
                    refine awp_region (rs := []) (cs := []) (live := [1, 4, 22]) (names := [1]) (st' := (⟨[(1, (.ptr 1 0)), (4, (.int .i64 a_o.Kind)), (22, (.bool ((a_o.Kind : Int) == (14 : Int))))], [(1, .row [(.int .i64 a_o.Kind), (.int .i64 a_o.Bits), (.int .i64 a_o.Lanes), (.int .i64 a_o.Dst), (AV.list 1 eI64 (0 : Int) a_o.Args .none), (.int .u64 a_o.Imm)])]⟩ : St)) (obs := []) hn mix (no_hand hΓ) (by kernel_rfl) trivial ?_
                    refine then_normal ?_
                    refine awp_cond ((a_o.Kind : Int) == (14 : Int)) (by kernel_rfl) (fun hb => ?_) (fun hb => ?_)
                    · replace h := cond_t hb h
                      clear hb
                      refine awp_skip ?_
                      obtain rfl := Option.some.inj h
                      exact ⟨rfl, Le.refl _ _⟩
                    · replace h := cond_f hb h
                      clear hb
                      refine awp_seq ?_
                      refine awp_region (rs := []) (cs := []) (live := [1, 4, 22]) (names := [1]) (st' := (⟨[(1, (.ptr 1 0)), (4, (.int .i64 a_o.Kind)), (22, (.bool ((a_o.Kind : Int) == (15 : Int))))], [(1, .row [(.int .i64 a_o.Kind), (.int .i64 a_o.Bits), (.int .i64 a_o.Lanes), (.int .i64 a_o.Dst), (AV.list 1 eI64 (0 : Int) a_o.Args .none), (.int .u64 a_o.Imm)])]⟩ : St)) (obs := []) hn mix (no_hand hΓ) (by kernel_rfl) trivial ?_
                      refine then_normal ?_
                      refine awp_cond ((a_o.Kind : Int) == (15 : Int)) (by kernel_rfl) (fun hb => ?_) (fun hb => ?_)
                      · replace h := cond_t hb h
                        clear hb
                        refine awp_skip ?_
                        obtain rfl := Option.some.inj h
                        exact ⟨rfl, Le.refl _ _⟩
                      · replace h := cond_f hb h
                        clear hb
                        refine awp_region (rs := []) (cs := []) (live := [1, 4, 22]) (names := [1]) (st' := (⟨[(1, (.ptr 1 0)), (4, (.int .i64 a_o.Kind)), (22, (.bool ((a_o.Kind : Int) == (20 : Int))))], [(1, .row [(.int .i64 a_o.Kind), (.int .i64 a_o.Bits), (.int .i64 a_o.Lanes), (.int .i64 a_o.Dst), (AV.list 1 eI64 (0 : Int) a_o.Args .none), (.int .u64 a_o.Imm)])]⟩ : St)) (obs := []) hn mix (no_hand hΓ) (by kernel_rfl) trivial ?_
                        obtain rfl := Option.some.inj h
                        exact ⟨rfl, Le.refl _ _⟩
          · clear hx8
            rintro e st' ⟨rfl, hl9⟩
            refine then_normal ?_
            refine awp_le hl9 ?_
            refine awp_cond x8 (by kernel_rfl) (fun hb => ?_) (fun hb => ?_)
            · replace h := cond_t hb h
              clear hb
              refine awp_seq ?_
              refine awp_region (rs := []) (cs := []) (live := [2]) (names := []) (st' := (⟨[(2, (.bool ((a_o.Lanes : Int) == (1 : Int))))], []⟩ : St)) (obs := [(2 < List.length (α := AV) [(.int .i64 a_o.Kind), (.int .i64 a_o.Bits), (.int .i64 a_o.Lanes), (.int .i64 a_o.Dst), (AV.list 1 eI64 (0 : Int) a_o.Args .none), (.int .u64 a_o.Imm)])]) hn mix (no_hand hΓ) (by kernel_rfl) ⟨(Nat.le_of_ble_eq_true rfl), trivial⟩ ?_
              refine then_normal ?_
              refine awp_ret ?_
              refine block_ret ?_
              refine then_ret ?_
              obtain rfl := Option.some.inj h
              exact ⟨.inl rfl, [], by kernel_rfl⟩
            · replace h := cond_f hb h
              clear hb
              refine awp_seq ?_
              obtain ⟨x11, hx11, h⟩ := bind_some h
              refine awp_join (fun (b10 : Bool) (e : Exit) (st : St) => e = .normal ∧ Le Γ st (⟨[(1, (.ptr 1 0)), (33, (.bool b10))], [(1, .row [(.int .i64 a_o.Kind), (.int .i64 a_o.Bits), (.int .i64 a_o.Lanes), (.int .i64 a_o.Dst), (AV.list 1 eI64 (0 : Int) a_o.Args .none), (.int .u64 a_o.Imm)])]⟩ : St)) hx11 ?_ ?_
              · clear h hx11
                intro y h
                refine awp_seq ?_
                refine awp_region (rs := []) (cs := []) (live := [1, 4, 33]) (names := [1]) (st' := (⟨[(1, (.ptr 1 0)), (4, (.int .i64 a_o.Kind)), (33, (.bool ((a_o.Kind : Int) == (21 : Int))))], [(1, .row [(.int .i64 a_o.Kind), (.int .i64 a_o.Bits), (.int .i64 a_o.Lanes), (.int .i64 a_o.Dst), (AV.list 1 eI64 (0 : Int) a_o.Args .none), (.int .u64 a_o.Imm)])]⟩ : St)) (obs := []) hn mix (no_hand hΓ) (by kernel_rfl) trivial ?_
                refine then_normal ?_
                refine awp_cond ((a_o.Kind : Int) == (21 : Int)) (by kernel_rfl) (fun hb => ?_) (fun hb => ?_)
                · replace h := cond_t hb h
                  clear hb
                  refine awp_skip ?_
                  obtain rfl := Option.some.inj h
                  exact ⟨rfl, le_restrict_eq [1, 33] [1] (by kernel_rfl) (no_hand hΓ)⟩
                · replace h := cond_f hb h
                  clear hb
                  refine awp_region (rs := []) (cs := []) (live := [1, 33]) (names := [1]) (st' := (⟨[(1, (.ptr 1 0)), (33, (.bool ((a_o.Kind : Int) == (22 : Int))))], [(1, .row [(.int .i64 a_o.Kind), (.int .i64 a_o.Bits), (.int .i64 a_o.Lanes), (.int .i64 a_o.Dst), (AV.list 1 eI64 (0 : Int) a_o.Args .none), (.int .u64 a_o.Imm)])]⟩ : St)) (obs := []) hn mix (no_hand hΓ) (by kernel_rfl) trivial ?_
                  obtain rfl := Option.some.inj h
                  exact ⟨rfl, Le.refl _ _⟩
              · clear hx11
                rintro e st' ⟨rfl, hl12⟩
                refine then_normal ?_
                refine awp_le hl12 ?_
                refine awp_cond x11 (by kernel_rfl) (fun hb => ?_) (fun hb => ?_)
                · replace h := cond_t hb h
                  clear hb
                  refine awp_seq ?_
                  refine awp_region (rs := []) (cs := []) (live := [2]) (names := []) (st' := (⟨[(2, (.bool (decide (((1 : Int) : Int) < a_o.Lanes))))], []⟩ : St)) (obs := [(2 < List.length (α := AV) [(.int .i64 a_o.Kind), (.int .i64 a_o.Bits), (.int .i64 a_o.Lanes), (.int .i64 a_o.Dst), (AV.list 1 eI64 (0 : Int) a_o.Args .none), (.int .u64 a_o.Imm)])]) hn mix (no_hand hΓ) (by kernel_rfl) ⟨(Nat.le_of_ble_eq_true rfl), trivial⟩ ?_
                  refine then_normal ?_
                  refine awp_ret ?_
                  refine block_ret ?_
                  refine then_ret ?_
                  obtain rfl := Option.some.inj h
                  exact ⟨.inl rfl, [], by kernel_rfl⟩
                · replace h := cond_f hb h
                  clear hb
                  refine awp_skip ?_
                  refine block_normal ?_
                  refine then_normal ?_
                  refine awp_seq ?_
                  refine awp_region (rs := []) (cs := []) (live := [2]) (names := []) (st' := (⟨[(2, (.bool true))], []⟩ : St)) (obs := []) hn mix (no_hand hΓ) (by kernel_rfl) trivial ?_
                  refine then_normal ?_
                  refine awp_ret ?_
                  obtain rfl := Option.some.inj h
                  exact ⟨.inl rfl, [], by kernel_rfl⟩

noncomputable def m_word_Cut (a_v : Int) (a_bits : Int) : Option Int :=
  ((m_word_May a_bits).bind fun x1 => (bif (!x1) then (some (0 : Int)) else (chk (0 ≤ (w64 ((64 : Int) - a_bits))) (chk (0 ≤ (w64 ((64 : Int) - a_bits))) (some (shrV .u64 (shlV .u64 a_v (w64 ((64 : Int) - a_bits))) (w64 ((64 : Int) - a_bits))))))))
theorem ok_word_Cut (a_v : Int) (a_bits : Int) (r : Int) (h : m_word_Cut a_v a_bits = some r) : Spec Try.prog 37 [(.int .u64 a_v), (.int .i64 a_bits)] [] (.int .u64 r) [] := by
  refine spec_of_awp (fn := Try.f37) Try.func37 rfl rfl (by kernel_rfl) (fun Γ hn hΓ => ?_)
  have hn : Γ.n = 15 := hn
  unfold m_word_Cut at h
  refine awp_seq ?_
  refine awp_region (rs := []) (cs := []) (live := [0, 1]) (names := []) (st' := (⟨[(0, (.int .u64 a_v)), (1, (.int .i64 a_bits))], []⟩ : St)) (obs := []) hn mix (no_hand hΓ) (by kernel_rfl) trivial ?_
  refine then_normal ?_
  refine awp_seq ?_
  refine awp_seq ?_
  obtain ⟨x1, hx1, h⟩ := bind_some h
  refine awp_region (rs := [⟨[], [], (.bool x1), []⟩]) (cs := []) (live := [0, 1, 7]) (names := []) (st' := (⟨[(0, (.int .u64 a_v)), (1, (.int .i64 a_bits)), (7, (.bool (!x1)))], []⟩ : St)) (obs := [(Spec Try.prog 33 [(.int .i64 a_bits)] [] (.bool x1) [])]) hn mix (no_hand hΓ) (by kernel_rfl) ⟨(ok_word_May a_bits x1 hx1), trivial⟩ ?_
  refine then_normal ?_
  refine awp_cond (!x1) (by kernel_rfl) (fun hb => ?_) (fun hb => ?_)
  · replace h := cond_t hb h
    clear hb
    refine awp_seq ?_
    refine awp_region (rs := []) (cs := []) (live := [4]) (names := []) (st' := (⟨[(4, (.int .u64 (0 : Int)))], []⟩ : St)) (obs := []) hn mix (no_hand hΓ) (by kernel_rfl) trivial ?_
    refine then_normal ?_
    refine awp_ret ?_
    refine then_ret ?_
    obtain rfl := Option.some.inj h
    exact ⟨.inl rfl, [], by kernel_rfl⟩
  · replace h := cond_f hb h
    clear hb
    refine awp_skip ?_
    refine then_normal ?_
    refine awp_seq ?_
    obtain ⟨hc2, h⟩ := chk_some h
    obtain ⟨hc3, h⟩ := chk_some h
    refine awp_region (rs := []) (cs := []) (live := [4]) (names := []) (st' := (⟨[(4, (.int .u64 (shrV .u64 (shlV .u64 a_v (w64 ((64 : Int) - a_bits))) (w64 ((64 : Int) - a_bits)))))], []⟩ : St)) (obs := [(0 ≤ (w64 ((64 : Int) - a_bits))), (0 ≤ (w64 ((64 : Int) - a_bits)))]) hn mix (no_hand hΓ) (by kernel_rfl) ⟨hc2, hc3, trivial⟩ ?_
    refine then_normal ?_
    refine awp_ret ?_
    obtain rfl := Option.some.inj h
    exact ⟨.inl rfl, [], by kernel_rfl⟩

noncomputable def m_kind_isWidth (a_imm : Int) : Option Bool :=
  ((bif ((decide ((a_imm : Int) ≤ (64 : Int))) == true) then m_word_May (w64 a_imm) else some (false)).bind fun x1 => (some (bif (decide ((a_imm : Int) ≤ (64 : Int))) then x1 else false)))
theorem ok_kind_isWidth (a_imm : Int) (r : Bool) (h : m_kind_isWidth a_imm = some r) : Spec Try.prog 38 [(.int .u64 a_imm)] [] (.bool r) [] := by
  refine spec_of_awp (fn := Try.f38) Try.func38 rfl rfl (by kernel_rfl) (fun Γ hn hΓ => ?_)
  have hn : Γ.n = 10 := hn
  unfold m_kind_isWidth at h
  refine awp_seq ?_
  refine awp_region (rs := []) (cs := []) (live := [0]) (names := []) (st' := (⟨[(0, (.int .u64 a_imm))], []⟩ : St)) (obs := []) hn mix (no_hand hΓ) (by kernel_rfl) trivial ?_
  refine then_normal ?_
  refine awp_seq ?_
  obtain ⟨x1, hx1, h⟩ := bind_some h
  refine awp_region (rs := [⟨[], [], (.bool x1), []⟩]) (cs := []) (live := [2]) (names := []) (st' := (⟨[(2, (.bool (bif (decide ((a_imm : Int) ≤ (64 : Int))) then x1 else false)))], []⟩ : St)) (obs := [(((decide ((a_imm : Int) ≤ (64 : Int))) == true) = true → ((decide ((a_imm : Int) ≤ (64 : Int))) == true) = true), (((decide ((a_imm : Int) ≤ (64 : Int))) == true) = true → ((decide ((a_imm : Int) ≤ (64 : Int))) == true) = true), (((decide ((a_imm : Int) ≤ (64 : Int))) == true) = true → (Spec Try.prog 33 [(.int .i64 (w64 a_imm))] [] (.bool x1) [])), ((decide ((a_imm : Int) ≤ (64 : Int))) = true → ((decide ((a_imm : Int) ≤ (64 : Int))) == true) = true)]) hn mix (no_hand hΓ) (by kernel_rfl) ⟨(fun hg => hg), (fun hg => hg), (fun hg => (ok_word_May (w64 a_imm) x1 (cond_t hg hx1))), (fun hp => by rw [hp]; rfl), trivial⟩ ?_
  refine then_normal ?_
  refine awp_ret ?_
  obtain rfl := Option.some.inj h
  exact ⟨.inl rfl, [], by kernel_rfl⟩

noncomputable def m_kind_immFits (a_o : TOp) : Option Bool :=
  (bif ((a_o.Kind : Int) == (0 : Int)) then ((m_word_Cut a_o.Imm a_o.Bits).bind fun x1 => (some ((x1 : Int) == a_o.Imm))) else (bif ((a_o.Kind : Int) == (14 : Int)) then ((m_kind_isWidth a_o.Imm).bind fun x2 => (some (bif x2 then (decide ((a_o.Imm : Int) < (wu64 a_o.Bits))) else false))) else (bif ((a_o.Kind : Int) == (15 : Int)) then ((m_kind_isWidth a_o.Imm).bind fun x3 => (some (bif x3 then (decide (((wu64 a_o.Bits) : Int) < a_o.Imm)) else false))) else (bif ((a_o.Kind : Int) == (22 : Int)) then (some (decide ((a_o.Imm : Int) < (wu64 a_o.Lanes)))) else (some ((a_o.Imm : Int) == (0 : Int)))))))
theorem ok_kind_immFits (a_o : TOp) (r : Bool) (h : m_kind_immFits a_o = some r) : Spec Try.prog 26 [(.agg (eTOp a_o))] [] (.bool r) [] := by
  refine spec_of_awp (fn := Try.f26) Try.func26 rfl rfl (by kernel_rfl) (fun Γ hn hΓ => ?_)
  have hn : Γ.n = 52 := hn
  unfold m_kind_immFits at h
  refine awp_seq ?_
  refine awp_region (rs := []) (cs := []) (live := [1]) (names := [1]) (st' := (⟨[(1, (.ptr 1 0))], [(1, .row [(.int .i64 a_o.Kind), (.int .i64 a_o.Bits), (.int .i64 a_o.Lanes), (.int .i64 a_o.Dst), (AV.list 1 eI64 (0 : Int) a_o.Args .none), (.int .u64 a_o.Imm)])]⟩ : St)) (obs := []) hn mix (no_hand hΓ) (by kernel_rfl) trivial ?_
  refine then_normal ?_
  refine awp_seq ?_
  refine awp_seq ?_
  refine awp_region (rs := []) (cs := []) (live := [1, 4]) (names := [1]) (st' := (⟨[(1, (.ptr 1 0)), (4, (.int .i64 a_o.Kind))], [(1, .row [(.int .i64 a_o.Kind), (.int .i64 a_o.Bits), (.int .i64 a_o.Lanes), (.int .i64 a_o.Dst), (AV.list 1 eI64 (0 : Int) a_o.Args .none), (.int .u64 a_o.Imm)])]⟩ : St)) (obs := [(0 < List.length (α := AV) [(.int .i64 a_o.Kind), (.int .i64 a_o.Bits), (.int .i64 a_o.Lanes), (.int .i64 a_o.Dst), (AV.list 1 eI64 (0 : Int) a_o.Args .none), (.int .u64 a_o.Imm)])]) hn mix (no_hand hΓ) (by kernel_rfl) ⟨(Nat.le_of_ble_eq_true rfl), trivial⟩ ?_
  refine then_normal ?_
  refine awp_block ?_
  refine awp_seq ?_
  refine awp_region (rs := []) (cs := []) (live := [1, 4, 5]) (names := [1]) (st' := (⟨[(1, (.ptr 1 0)), (4, (.int .i64 a_o.Kind)), (5, (.bool ((a_o.Kind : Int) == (0 : Int))))], [(1, .row [(.int .i64 a_o.Kind), (.int .i64 a_o.Bits), (.int .i64 a_o.Lanes), (.int .i64 a_o.Dst), (AV.list 1 eI64 (0 : Int) a_o.Args .none), (.int .u64 a_o.Imm)])]⟩ : St)) (obs := []) hn mix (no_hand hΓ) (by kernel_rfl) trivial ?_
  refine then_normal ?_
  refine awp_cond ((a_o.Kind : Int) == (0 : Int)) (by kernel_rfl) (fun hb => ?_) (fun hb => ?_)
  · replace h := cond_t hb h
    clear hb
    refine awp_seq ?_
    obtain ⟨x1, hx1, h⟩ := bind_some h
    refine awp_region (rs := [⟨[], [], (.int .u64 x1), []⟩]) (cs := []) (live := [2]) (names := []) (st' := (⟨[(2, (.bool ((x1 : Int) == a_o.Imm)))], []⟩ : St)) (obs := [(5 < List.length (α := AV) [(.int .i64 a_o.Kind), (.int .i64 a_o.Bits), (.int .i64 a_o.Lanes), (.int .i64 a_o.Dst), (AV.list 1 eI64 (0 : Int) a_o.Args .none), (.int .u64 a_o.Imm)]), (1 < List.length (α := AV) [(.int .i64 a_o.Kind), (.int .i64 a_o.Bits), (.int .i64 a_o.Lanes), (.int .i64 a_o.Dst), (AV.list 1 eI64 (0 : Int) a_o.Args .none), (.int .u64 a_o.Imm)]), (Spec Try.prog 37 [(.int .u64 a_o.Imm), (.int .i64 a_o.Bits)] [] (.int .u64 x1) []), (5 < List.length (α := AV) [(.int .i64 a_o.Kind), (.int .i64 a_o.Bits), (.int .i64 a_o.Lanes), (.int .i64 a_o.Dst), (AV.list 1 eI64 (0 : Int) a_o.Args .none), (.int .u64 a_o.Imm)])]) hn mix (no_hand hΓ) (by kernel_rfl) ⟨(Nat.le_of_ble_eq_true rfl), (Nat.le_of_ble_eq_true rfl), (ok_word_Cut a_o.Imm a_o.Bits x1 hx1), (Nat.le_of_ble_eq_true rfl), trivial⟩ ?_
    refine then_normal ?_
    refine awp_ret ?_
    refine block_ret ?_
    refine then_ret ?_
    obtain rfl := Option.some.inj h
    exact ⟨.inl rfl, [], by kernel_rfl⟩
  · replace h := cond_f hb h
    clear hb
    refine awp_seq ?_
    refine awp_region (rs := []) (cs := []) (live := [1, 4, 15]) (names := [1]) (st' := (⟨[(1, (.ptr 1 0)), (4, (.int .i64 a_o.Kind)), (15, (.bool ((a_o.Kind : Int) == (14 : Int))))], [(1, .row [(.int .i64 a_o.Kind), (.int .i64 a_o.Bits), (.int .i64 a_o.Lanes), (.int .i64 a_o.Dst), (AV.list 1 eI64 (0 : Int) a_o.Args .none), (.int .u64 a_o.Imm)])]⟩ : St)) (obs := []) hn mix (no_hand hΓ) (by kernel_rfl) trivial ?_
    refine then_normal ?_
    refine awp_cond ((a_o.Kind : Int) == (14 : Int)) (by kernel_rfl) (fun hb => ?_) (fun hb => ?_)
    · replace h := cond_t hb h
      clear hb
      refine awp_seq ?_
      obtain ⟨x2, hx2, h⟩ := bind_some h
      refine awp_region (rs := [⟨[], [], (.bool x2), []⟩]) (cs := []) (live := [2]) (names := []) (st' := (⟨[(2, (.bool (bif x2 then (decide ((a_o.Imm : Int) < (wu64 a_o.Bits))) else false)))], []⟩ : St)) (obs := [(5 < List.length (α := AV) [(.int .i64 a_o.Kind), (.int .i64 a_o.Bits), (.int .i64 a_o.Lanes), (.int .i64 a_o.Dst), (AV.list 1 eI64 (0 : Int) a_o.Args .none), (.int .u64 a_o.Imm)]), (Spec Try.prog 38 [(.int .u64 a_o.Imm)] [] (.bool x2) []), ((x2 == true) = true → (x2 == true) = true), ((x2 == true) = true → (5 < List.length (α := AV) [(.int .i64 a_o.Kind), (.int .i64 a_o.Bits), (.int .i64 a_o.Lanes), (.int .i64 a_o.Dst), (AV.list 1 eI64 (0 : Int) a_o.Args .none), (.int .u64 a_o.Imm)])), ((x2 == true) = true → (x2 == true) = true), ((x2 == true) = true → (1 < List.length (α := AV) [(.int .i64 a_o.Kind), (.int .i64 a_o.Bits), (.int .i64 a_o.Lanes), (.int .i64 a_o.Dst), (AV.list 1 eI64 (0 : Int) a_o.Args .none), (.int .u64 a_o.Imm)])), ((x2 == true) = true → (x2 == true) = true), ((x2 == true) = true → (x2 == true) = true), ((x2 == true) = true → (x2 == true) = true), (x2 = true → (x2 == true) = true)]) hn mix (no_hand hΓ) (by kernel_rfl) ⟨(Nat.le_of_ble_eq_true rfl), (ok_kind_isWidth a_o.Imm x2 hx2), (fun hg => hg), (fun hg => (Nat.le_of_ble_eq_true rfl)), (fun hg => hg), (fun hg => (Nat.le_of_ble_eq_true rfl)), (fun hg => hg), (fun hg => hg), (fun hg => hg), (fun hp => by rw [hp]; rfl), trivial⟩ ?_
      refine then_normal ?_
      refine awp_ret ?_
      refine block_ret ?_
      refine then_ret ?_
      obtain rfl := Option.some.inj h
      exact ⟨.inl rfl, [], by kernel_rfl⟩
    · replace h := cond_f hb h
      clear hb
      refine awp_seq ?_
      refine awp_region (rs := []) (cs := []) (live := [1, 4, 28]) (names := [1]) (st' := (⟨[(1, (.ptr 1 0)), (4, (.int .i64 a_o.Kind)), (28, (.bool ((a_o.Kind : Int) == (15 : Int))))], [(1, .row [(.int .i64 a_o.Kind), (.int .i64 a_o.Bits), (.int .i64 a_o.Lanes), (.int .i64 a_o.Dst), (AV.list 1 eI64 (0 : Int) a_o.Args .none), (.int .u64 a_o.Imm)])]⟩ : St)) (obs := []) hn mix (no_hand hΓ) (by kernel_rfl) trivial ?_
      refine then_normal ?_
      refine awp_cond ((a_o.Kind : Int) == (15 : Int)) (by kernel_rfl) (fun hb => ?_) (fun hb => ?_)
      · replace h := cond_t hb h
        clear hb
        refine awp_seq ?_
        obtain ⟨x3, hx3, h⟩ := bind_some h
        refine awp_region (rs := [⟨[], [], (.bool x3), []⟩]) (cs := []) (live := [2]) (names := []) (st' := (⟨[(2, (.bool (bif x3 then (decide (((wu64 a_o.Bits) : Int) < a_o.Imm)) else false)))], []⟩ : St)) (obs := [(5 < List.length (α := AV) [(.int .i64 a_o.Kind), (.int .i64 a_o.Bits), (.int .i64 a_o.Lanes), (.int .i64 a_o.Dst), (AV.list 1 eI64 (0 : Int) a_o.Args .none), (.int .u64 a_o.Imm)]), (Spec Try.prog 38 [(.int .u64 a_o.Imm)] [] (.bool x3) []), ((x3 == true) = true → (x3 == true) = true), ((x3 == true) = true → (5 < List.length (α := AV) [(.int .i64 a_o.Kind), (.int .i64 a_o.Bits), (.int .i64 a_o.Lanes), (.int .i64 a_o.Dst), (AV.list 1 eI64 (0 : Int) a_o.Args .none), (.int .u64 a_o.Imm)])), ((x3 == true) = true → (x3 == true) = true), ((x3 == true) = true → (1 < List.length (α := AV) [(.int .i64 a_o.Kind), (.int .i64 a_o.Bits), (.int .i64 a_o.Lanes), (.int .i64 a_o.Dst), (AV.list 1 eI64 (0 : Int) a_o.Args .none), (.int .u64 a_o.Imm)])), ((x3 == true) = true → (x3 == true) = true), ((x3 == true) = true → (x3 == true) = true), ((x3 == true) = true → (x3 == true) = true), (x3 = true → (x3 == true) = true)]) hn mix (no_hand hΓ) (by kernel_rfl) ⟨(Nat.le_of_ble_eq_true rfl), (ok_kind_isWidth a_o.Imm x3 hx3), (fun hg => hg), (fun hg => (Nat.le_of_ble_eq_true rfl)), (fun hg => hg), (fun hg => (Nat.le_of_ble_eq_true rfl)), (fun hg => hg), (fun hg => hg), (fun hg => hg), (fun hp => by rw [hp]; rfl), trivial⟩ ?_
        refine then_normal ?_
        refine awp_ret ?_
        refine block_ret ?_
        refine then_ret ?_
        obtain rfl := Option.some.inj h
        exact ⟨.inl rfl, [], by kernel_rfl⟩
      · replace h := cond_f hb h
        clear hb
        refine awp_seq ?_
        refine awp_region (rs := []) (cs := []) (live := [1, 41]) (names := [1]) (st' := (⟨[(1, (.ptr 1 0)), (41, (.bool ((a_o.Kind : Int) == (22 : Int))))], [(1, .row [(.int .i64 a_o.Kind), (.int .i64 a_o.Bits), (.int .i64 a_o.Lanes), (.int .i64 a_o.Dst), (AV.list 1 eI64 (0 : Int) a_o.Args .none), (.int .u64 a_o.Imm)])]⟩ : St)) (obs := []) hn mix (no_hand hΓ) (by kernel_rfl) trivial ?_
        refine then_normal ?_
        refine awp_cond ((a_o.Kind : Int) == (22 : Int)) (by kernel_rfl) (fun hb => ?_) (fun hb => ?_)
        · replace h := cond_t hb h
          clear hb
          refine awp_seq ?_
          refine awp_region (rs := []) (cs := []) (live := [2]) (names := []) (st' := (⟨[(2, (.bool (decide ((a_o.Imm : Int) < (wu64 a_o.Lanes)))))], []⟩ : St)) (obs := [(5 < List.length (α := AV) [(.int .i64 a_o.Kind), (.int .i64 a_o.Bits), (.int .i64 a_o.Lanes), (.int .i64 a_o.Dst), (AV.list 1 eI64 (0 : Int) a_o.Args .none), (.int .u64 a_o.Imm)]), (2 < List.length (α := AV) [(.int .i64 a_o.Kind), (.int .i64 a_o.Bits), (.int .i64 a_o.Lanes), (.int .i64 a_o.Dst), (AV.list 1 eI64 (0 : Int) a_o.Args .none), (.int .u64 a_o.Imm)])]) hn mix (no_hand hΓ) (by kernel_rfl) ⟨(Nat.le_of_ble_eq_true rfl), (Nat.le_of_ble_eq_true rfl), trivial⟩ ?_
          refine then_normal ?_
          refine awp_ret ?_
          refine block_ret ?_
          refine then_ret ?_
          obtain rfl := Option.some.inj h
          exact ⟨.inl rfl, [], by kernel_rfl⟩
        · replace h := cond_f hb h
          clear hb
          refine awp_skip ?_
          refine block_normal ?_
          refine then_normal ?_
          refine awp_seq ?_
          refine awp_region (rs := []) (cs := []) (live := [2]) (names := []) (st' := (⟨[(2, (.bool ((a_o.Imm : Int) == (0 : Int))))], []⟩ : St)) (obs := [(5 < List.length (α := AV) [(.int .i64 a_o.Kind), (.int .i64 a_o.Bits), (.int .i64 a_o.Lanes), (.int .i64 a_o.Dst), (AV.list 1 eI64 (0 : Int) a_o.Args .none), (.int .u64 a_o.Imm)])]) hn mix (no_hand hΓ) (by kernel_rfl) ⟨(Nat.le_of_ble_eq_true rfl), trivial⟩ ?_
          refine then_normal ?_
          refine awp_ret ?_
          obtain rfl := Option.some.inj h
          exact ⟨.inl rfl, [], by kernel_rfl⟩

noncomputable def m_kind_row (a_shapes : List ((Int × Int))) : Option (List ((Int × Int))) :=
  (some a_shapes)
theorem ok_kind_row (a_shapes : List ((Int × Int))) (r : List ((Int × Int))) (h : m_kind_row a_shapes = some r) : Spec Try.prog 41 [(AV.list 2 eA2I64 ((0 : Int), (0 : Int)) a_shapes .none)] [] (AV.list 2 eA2I64 ((0 : Int), (0 : Int)) r .none) [] := by
  refine spec_of_awp (fn := Try.f41) Try.func41 rfl rfl (by kernel_rfl) (fun Γ hn hΓ => ?_)
  have hn : Γ.n = 4 := hn
  unfold m_kind_row at h
  refine awp_seq ?_
  refine awp_region (rs := []) (cs := [(2, (AV.list 2 eA2I64 ((0 : Int), (0 : Int)) ([] : List (Int × Int)) .exact))]) (live := [0]) (names := []) (st' := (⟨[(0, (AV.list 2 eA2I64 ((0 : Int), (0 : Int)) a_shapes .none))], []⟩ : St)) (obs := [(AVle (.slice 0 0 (fun _ => []) .exact) (AV.list 2 eA2I64 ((0 : Int), (0 : Int)) ([] : List (Int × Int)) .exact))]) hn mix (no_hand hΓ) (by kernel_rfl) ⟨av_nil, trivial⟩ ?_
  refine then_normal ?_
  refine awp_seq ?_
  refine awp_region (rs := []) (cs := []) (live := [2]) (names := []) (st' := (⟨[(2, (AV.list 2 eA2I64 ((0 : Int), (0 : Int)) a_shapes .none))], []⟩ : St)) (obs := []) hn mix (no_hand hΓ) (by kernel_rfl) trivial ?_
  refine then_normal ?_
  refine awp_ret ?_
  obtain rfl := Option.some.inj h
  exact ⟨.inl rfl, [], by kernel_rfl⟩

noncomputable def m_bits_Mul32 (a_x : Int) (a_y : Int) : Option (Int × Int) :=
  (some ((IntKind.wrap .u32 (shrV .u64 (wu64 ((wu64 a_x) * (wu64 a_y))) (32 : Int))), (IntKind.wrap .u32 (wu64 ((wu64 a_x) * (wu64 a_y))))))
theorem ok_bits_Mul32 (a_x : Int) (a_y : Int) (r : (Int × Int)) (h : m_bits_Mul32 a_x a_y = some r) : Spec Try.prog 44 [(.int .u32 a_x), (.int .u32 a_y)] [] (.tuple [(.int .u32 r.1), (.int .u32 r.2)]) [] := by
  refine spec_of_awp (fn := Try.f44) Try.func44 rfl rfl (by kernel_rfl) (fun Γ hn hΓ => ?_)
  have hn : Γ.n = 17 := hn
  unfold m_bits_Mul32 at h
  refine awp_seq ?_
  refine awp_region (rs := []) (cs := []) (live := [0, 1]) (names := []) (st' := (⟨[(0, (.int .u32 a_x)), (1, (.int .u32 a_y))], []⟩ : St)) (obs := []) hn mix (no_hand hΓ) (by kernel_rfl) trivial ?_
  refine then_normal ?_
  refine awp_seq ?_
  refine awp_region (rs := []) (cs := []) (live := [6]) (names := []) (st' := (⟨[(6, (.int .u64 (wu64 ((wu64 a_x) * (wu64 a_y)))))], []⟩ : St)) (obs := []) hn mix (no_hand hΓ) (by kernel_rfl) trivial ?_
  refine then_normal ?_
  refine awp_seq ?_
  refine awp_region (rs := []) (cs := []) (live := [4, 5]) (names := []) (st' := (⟨[(4, (.int .u32 (IntKind.wrap .u32 (shrV .u64 (wu64 ((wu64 a_x) * (wu64 a_y))) (32 : Int))))), (5, (.int .u32 (IntKind.wrap .u32 (wu64 ((wu64 a_x) * (wu64 a_y))))))], []⟩ : St)) (obs := [(0 ≤ (32 : Int))]) hn mix (no_hand hΓ) (by kernel_rfl) ⟨(by decide), trivial⟩ ?_
  refine then_normal ?_
  refine awp_ret ?_
  obtain rfl := Option.some.inj h
  exact ⟨.inl rfl, [], by kernel_rfl⟩

noncomputable def m_bits_Mul64 (a_x : Int) (a_y : Int) : Option (Int × Int) :=
  (some ((wu64 ((wu64 ((wu64 ((shrV .u64 a_x (32 : Int)) * (shrV .u64 a_y (32 : Int)))) + (shrV .u64 (wu64 ((wu64 ((shrV .u64 a_x (32 : Int)) * (bitsV .and .u64 a_y (4294967295 : Int)))) + (shrV .u64 (wu64 ((bitsV .and .u64 a_x (4294967295 : Int)) * (bitsV .and .u64 a_y (4294967295 : Int)))) (32 : Int)))) (32 : Int)))) + (shrV .u64 (wu64 ((bitsV .and .u64 (wu64 ((wu64 ((shrV .u64 a_x (32 : Int)) * (bitsV .and .u64 a_y (4294967295 : Int)))) + (shrV .u64 (wu64 ((bitsV .and .u64 a_x (4294967295 : Int)) * (bitsV .and .u64 a_y (4294967295 : Int)))) (32 : Int)))) (4294967295 : Int)) + (wu64 ((bitsV .and .u64 a_x (4294967295 : Int)) * (shrV .u64 a_y (32 : Int)))))) (32 : Int)))), (wu64 (a_x * a_y))))
theorem ok_bits_Mul64 (a_x : Int) (a_y : Int) (r : (Int × Int)) (h : m_bits_Mul64 a_x a_y = some r) : Spec Try.prog 45 [(.int .u64 a_x), (.int .u64 a_y)] [] (.tuple [(.int .u64 r.1), (.int .u64 r.2)]) [] := by
  refine spec_of_awp (fn := Try.f45) Try.func45 rfl rfl (by kernel_rfl) (fun Γ hn hΓ => ?_)
  have hn : Γ.n = 51 := hn
  unfold m_bits_Mul64 at h
  refine awp_seq ?_
  refine awp_region (rs := []) (cs := []) (live := [0, 1]) (names := []) (st' := (⟨[(0, (.int .u64 a_x)), (1, (.int .u64 a_y))], []⟩ : St)) (obs := []) hn mix (no_hand hΓ) (by kernel_rfl) trivial ?_
  refine then_normal ?_
  refine awp_seq ?_
  refine awp_region (rs := []) (cs := []) (live := [0, 1, 6]) (names := []) (st' := (⟨[(0, (.int .u64 a_x)), (1, (.int .u64 a_y)), (6, (.int .u64 (bitsV .and .u64 a_x (4294967295 : Int))))], []⟩ : St)) (obs := []) hn mix (no_hand hΓ) (by kernel_rfl) trivial ?_
  refine then_normal ?_
  refine awp_seq ?_
  refine awp_region (rs := []) (cs := []) (live := [0, 1, 6, 7]) (names := []) (st' := (⟨[(0, (.int .u64 a_x)), (1, (.int .u64 a_y)), (6, (.int .u64 (bitsV .and .u64 a_x (4294967295 : Int)))), (7, (.int .u64 (shrV .u64 a_x (32 : Int))))], []⟩ : St)) (obs := [(0 ≤ (32 : Int))]) hn mix (no_hand hΓ) (by kernel_rfl) ⟨(by decide), trivial⟩ ?_
  refine then_normal ?_
  refine awp_seq ?_
  refine awp_region (rs := []) (cs := []) (live := [0, 1, 6, 7, 8]) (names := []) (st' := (⟨[(0, (.int .u64 a_x)), (1, (.int .u64 a_y)), (6, (.int .u64 (bitsV .and .u64 a_x (4294967295 : Int)))), (7, (.int .u64 (shrV .u64 a_x (32 : Int)))), (8, (.int .u64 (bitsV .and .u64 a_y (4294967295 : Int))))], []⟩ : St)) (obs := []) hn mix (no_hand hΓ) (by kernel_rfl) trivial ?_
  refine then_normal ?_
  refine awp_seq ?_
  refine awp_region (rs := []) (cs := []) (live := [0, 1, 6, 7, 8, 9]) (names := []) (st' := (⟨[(0, (.int .u64 a_x)), (1, (.int .u64 a_y)), (6, (.int .u64 (bitsV .and .u64 a_x (4294967295 : Int)))), (7, (.int .u64 (shrV .u64 a_x (32 : Int)))), (8, (.int .u64 (bitsV .and .u64 a_y (4294967295 : Int)))), (9, (.int .u64 (shrV .u64 a_y (32 : Int))))], []⟩ : St)) (obs := [(0 ≤ (32 : Int))]) hn mix (no_hand hΓ) (by kernel_rfl) ⟨(by decide), trivial⟩ ?_
  refine then_normal ?_
  refine awp_seq ?_
  refine awp_region (rs := []) (cs := []) (live := [0, 1, 6, 7, 8, 9, 10]) (names := []) (st' := (⟨[(0, (.int .u64 a_x)), (1, (.int .u64 a_y)), (6, (.int .u64 (bitsV .and .u64 a_x (4294967295 : Int)))), (7, (.int .u64 (shrV .u64 a_x (32 : Int)))), (8, (.int .u64 (bitsV .and .u64 a_y (4294967295 : Int)))), (9, (.int .u64 (shrV .u64 a_y (32 : Int)))), (10, (.int .u64 (wu64 ((bitsV .and .u64 a_x (4294967295 : Int)) * (bitsV .and .u64 a_y (4294967295 : Int))))))], []⟩ : St)) (obs := []) hn mix (no_hand hΓ) (by kernel_rfl) trivial ?_
  refine then_normal ?_
  refine awp_seq ?_
  refine awp_region (rs := []) (cs := []) (live := [0, 1, 6, 7, 9, 11]) (names := []) (st' := (⟨[(0, (.int .u64 a_x)), (1, (.int .u64 a_y)), (6, (.int .u64 (bitsV .and .u64 a_x (4294967295 : Int)))), (7, (.int .u64 (shrV .u64 a_x (32 : Int)))), (9, (.int .u64 (shrV .u64 a_y (32 : Int)))), (11, (.int .u64 (wu64 ((wu64 ((shrV .u64 a_x (32 : Int)) * (bitsV .and .u64 a_y (4294967295 : Int)))) + (shrV .u64 (wu64 ((bitsV .and .u64 a_x (4294967295 : Int)) * (bitsV .and .u64 a_y (4294967295 : Int)))) (32 : Int))))))], []⟩ : St)) (obs := [(0 ≤ (32 : Int))]) hn mix (no_hand hΓ) (by kernel_rfl) ⟨(by decide), trivial⟩ ?_
  refine then_normal ?_
  refine awp_seq ?_
  refine awp_region (rs := []) (cs := []) (live := [0, 1, 6, 7, 9, 11, 12]) (names := []) (st' := (⟨[(0, (.int .u64 a_x)), (1, (.int .u64 a_y)), (6, (.int .u64 (bitsV .and .u64 a_x (4294967295 : Int)))), (7, (.int .u64 (shrV .u64 a_x (32 : Int)))), (9, (.int .u64 (shrV .u64 a_y (32 : Int)))), (11, (.int .u64 (wu64 ((wu64 ((shrV .u64 a_x (32 : Int)) * (bitsV .and .u64 a_y (4294967295 : Int)))) + (shrV .u64 (wu64 ((bitsV .and .u64 a_x (4294967295 : Int)) * (bitsV .and .u64 a_y (4294967295 : Int)))) (32 : Int)))))), (12, (.int .u64 (bitsV .and .u64 (wu64 ((wu64 ((shrV .u64 a_x (32 : Int)) * (bitsV .and .u64 a_y (4294967295 : Int)))) + (shrV .u64 (wu64 ((bitsV .and .u64 a_x (4294967295 : Int)) * (bitsV .and .u64 a_y (4294967295 : Int)))) (32 : Int)))) (4294967295 : Int))))], []⟩ : St)) (obs := []) hn mix (no_hand hΓ) (by kernel_rfl) trivial ?_
  refine then_normal ?_
  refine awp_seq ?_
  refine awp_region (rs := []) (cs := []) (live := [0, 1, 6, 7, 9, 12, 13]) (names := []) (st' := (⟨[(0, (.int .u64 a_x)), (1, (.int .u64 a_y)), (6, (.int .u64 (bitsV .and .u64 a_x (4294967295 : Int)))), (7, (.int .u64 (shrV .u64 a_x (32 : Int)))), (9, (.int .u64 (shrV .u64 a_y (32 : Int)))), (12, (.int .u64 (bitsV .and .u64 (wu64 ((wu64 ((shrV .u64 a_x (32 : Int)) * (bitsV .and .u64 a_y (4294967295 : Int)))) + (shrV .u64 (wu64 ((bitsV .and .u64 a_x (4294967295 : Int)) * (bitsV .and .u64 a_y (4294967295 : Int)))) (32 : Int)))) (4294967295 : Int)))), (13, (.int .u64 (shrV .u64 (wu64 ((wu64 ((shrV .u64 a_x (32 : Int)) * (bitsV .and .u64 a_y (4294967295 : Int)))) + (shrV .u64 (wu64 ((bitsV .and .u64 a_x (4294967295 : Int)) * (bitsV .and .u64 a_y (4294967295 : Int)))) (32 : Int)))) (32 : Int))))], []⟩ : St)) (obs := [(0 ≤ (32 : Int))]) hn mix (no_hand hΓ) (by kernel_rfl) ⟨(by decide), trivial⟩ ?_
  refine then_normal ?_
  refine awp_seq ?_
  refine awp_region (rs := []) (cs := []) (live := [0, 1, 7, 9, 12, 13]) (names := []) (st' := (⟨[(0, (.int .u64 a_x)), (1, (.int .u64 a_y)), (7, (.int .u64 (shrV .u64 a_x (32 : Int)))), (9, (.int .u64 (shrV .u64 a_y (32 : Int)))), (12, (.int .u64 (wu64 ((bitsV .and .u64 (wu64 ((wu64 ((shrV .u64 a_x (32 : Int)) * (bitsV .and .u64 a_y (4294967295 : Int)))) + (shrV .u64 (wu64 ((bitsV .and .u64 a_x (4294967295 : Int)) * (bitsV .and .u64 a_y (4294967295 : Int)))) (32 : Int)))) (4294967295 : Int)) + (wu64 ((bitsV .and .u64 a_x (4294967295 : Int)) * (shrV .u64 a_y (32 : Int)))))))), (13, (.int .u64 (shrV .u64 (wu64 ((wu64 ((shrV .u64 a_x (32 : Int)) * (bitsV .and .u64 a_y (4294967295 : Int)))) + (shrV .u64 (wu64 ((bitsV .and .u64 a_x (4294967295 : Int)) * (bitsV .and .u64 a_y (4294967295 : Int)))) (32 : Int)))) (32 : Int))))], []⟩ : St)) (obs := []) hn mix (no_hand hΓ) (by kernel_rfl) trivial ?_
  refine then_normal ?_
  refine awp_seq ?_
  refine awp_region (rs := []) (cs := []) (live := [0, 1, 4]) (names := []) (st' := (⟨[(0, (.int .u64 a_x)), (1, (.int .u64 a_y)), (4, (.int .u64 (wu64 ((wu64 ((wu64 ((shrV .u64 a_x (32 : Int)) * (shrV .u64 a_y (32 : Int)))) + (shrV .u64 (wu64 ((wu64 ((shrV .u64 a_x (32 : Int)) * (bitsV .and .u64 a_y (4294967295 : Int)))) + (shrV .u64 (wu64 ((bitsV .and .u64 a_x (4294967295 : Int)) * (bitsV .and .u64 a_y (4294967295 : Int)))) (32 : Int)))) (32 : Int)))) + (shrV .u64 (wu64 ((bitsV .and .u64 (wu64 ((wu64 ((shrV .u64 a_x (32 : Int)) * (bitsV .and .u64 a_y (4294967295 : Int)))) + (shrV .u64 (wu64 ((bitsV .and .u64 a_x (4294967295 : Int)) * (bitsV .and .u64 a_y (4294967295 : Int)))) (32 : Int)))) (4294967295 : Int)) + (wu64 ((bitsV .and .u64 a_x (4294967295 : Int)) * (shrV .u64 a_y (32 : Int)))))) (32 : Int))))))], []⟩ : St)) (obs := [(0 ≤ (32 : Int))]) hn mix (no_hand hΓ) (by kernel_rfl) ⟨(by decide), trivial⟩ ?_
  refine then_normal ?_
  refine awp_seq ?_
  refine awp_region (rs := []) (cs := []) (live := [4, 5]) (names := []) (st' := (⟨[(4, (.int .u64 (wu64 ((wu64 ((wu64 ((shrV .u64 a_x (32 : Int)) * (shrV .u64 a_y (32 : Int)))) + (shrV .u64 (wu64 ((wu64 ((shrV .u64 a_x (32 : Int)) * (bitsV .and .u64 a_y (4294967295 : Int)))) + (shrV .u64 (wu64 ((bitsV .and .u64 a_x (4294967295 : Int)) * (bitsV .and .u64 a_y (4294967295 : Int)))) (32 : Int)))) (32 : Int)))) + (shrV .u64 (wu64 ((bitsV .and .u64 (wu64 ((wu64 ((shrV .u64 a_x (32 : Int)) * (bitsV .and .u64 a_y (4294967295 : Int)))) + (shrV .u64 (wu64 ((bitsV .and .u64 a_x (4294967295 : Int)) * (bitsV .and .u64 a_y (4294967295 : Int)))) (32 : Int)))) (4294967295 : Int)) + (wu64 ((bitsV .and .u64 a_x (4294967295 : Int)) * (shrV .u64 a_y (32 : Int)))))) (32 : Int)))))), (5, (.int .u64 (wu64 (a_x * a_y))))], []⟩ : St)) (obs := []) hn mix (no_hand hΓ) (by kernel_rfl) trivial ?_
  refine then_normal ?_
  refine awp_ret ?_
  obtain rfl := Option.some.inj h
  exact ⟨.inl rfl, [], by kernel_rfl⟩

noncomputable def m_bits_Mul (a_x : Int) (a_y : Int) : Option (Int × Int) :=
  (bif false then ((m_bits_Mul32 (IntKind.wrap .u32 a_x) (IntKind.wrap .u32 a_y)).bind fun x1 => (some ((wu64 x1.1), (wu64 x1.2)))) else ((m_bits_Mul64 a_x a_y).bind fun x2 => (some (x2.1, x2.2))))
theorem ok_bits_Mul (a_x : Int) (a_y : Int) (r : (Int × Int)) (h : m_bits_Mul a_x a_y = some r) : Spec Try.prog 43 [(.int .u64 a_x), (.int .u64 a_y)] [] (.tuple [(.int .u64 r.1), (.int .u64 r.2)]) [] := by
  refine spec_of_awp (fn := Try.f43) Try.func43 rfl rfl (by kernel_rfl) (fun Γ hn hΓ => ?_)
  have hn : Γ.n = 30 := hn
  unfold m_bits_Mul at h
  refine awp_seq ?_
  refine awp_region (rs := []) (cs := []) (live := [0, 1]) (names := []) (st' := (⟨[(0, (.int .u64 a_x)), (1, (.int .u64 a_y))], []⟩ : St)) (obs := []) hn mix (no_hand hΓ) (by kernel_rfl) trivial ?_
  refine then_normal ?_
  refine awp_seq ?_
  refine awp_cond false (by kernel_rfl) (fun hb => ?_) (fun hb => ?_)
  · replace h := cond_t hb h
    clear hb
    refine awp_seq ?_
    obtain ⟨x1, hx1, h⟩ := bind_some h
    refine awp_region (rs := [⟨[], [], (.tuple [(.int .u32 x1.1), (.int .u32 x1.2)]), []⟩]) (cs := []) (live := [6, 7]) (names := []) (st' := (⟨[(6, (.int .u32 x1.1)), (7, (.int .u32 x1.2))], []⟩ : St)) (obs := [(Spec Try.prog 44 [(.int .u32 (IntKind.wrap .u32 a_x)), (.int .u32 (IntKind.wrap .u32 a_y))] [] (.tuple [(.int .u32 x1.1), (.int .u32 x1.2)]) [])]) hn mix (no_hand hΓ) (by kernel_rfl) ⟨(ok_bits_Mul32 (IntKind.wrap .u32 a_x) (IntKind.wrap .u32 a_y) x1 hx1), trivial⟩ ?_
    refine then_normal ?_
    refine awp_seq ?_
    refine awp_region (rs := []) (cs := []) (live := [4, 5]) (names := []) (st' := (⟨[(4, (.int .u64 (wu64 x1.1))), (5, (.int .u64 (wu64 x1.2)))], []⟩ : St)) (obs := []) hn mix (no_hand hΓ) (by kernel_rfl) trivial ?_
    refine then_normal ?_
    refine awp_ret ?_
    refine then_ret ?_
    obtain rfl := Option.some.inj h
    exact ⟨.inl rfl, [], by kernel_rfl⟩
  · replace h := cond_f hb h
    clear hb
    refine awp_skip ?_
    refine then_normal ?_
    refine awp_seq ?_
    obtain ⟨x2, hx2, h⟩ := bind_some h
    refine awp_region (rs := [⟨[], [], (.tuple [(.int .u64 x2.1), (.int .u64 x2.2)]), []⟩]) (cs := []) (live := [8, 9]) (names := []) (st' := (⟨[(8, (.int .u64 x2.1)), (9, (.int .u64 x2.2))], []⟩ : St)) (obs := [(Spec Try.prog 45 [(.int .u64 a_x), (.int .u64 a_y)] [] (.tuple [(.int .u64 x2.1), (.int .u64 x2.2)]) [])]) hn mix (no_hand hΓ) (by kernel_rfl) ⟨(ok_bits_Mul64 a_x a_y x2 hx2), trivial⟩ ?_
    refine then_normal ?_
    refine awp_seq ?_
    refine awp_region (rs := []) (cs := []) (live := [4, 5]) (names := []) (st' := (⟨[(4, (.int .u64 x2.1)), (5, (.int .u64 x2.2))], []⟩ : St)) (obs := []) hn mix (no_hand hΓ) (by kernel_rfl) trivial ?_
    refine then_normal ?_
    refine awp_ret ?_
    obtain rfl := Option.some.inj h
    exact ⟨.inl rfl, [], by kernel_rfl⟩

noncomputable def m_slices_Repeat_2_int_2_int_L1  : (Int × List ((Int × Int))) → Option (LR (Int × List ((Int × Int))) (List ((Int × Int)))) :=
  fun ((i7, l8) : (Int × List ((Int × Int)))) => (bif (decide ((i7 : Int) < (l8.length : Int))) then (chk (0 ≤ i7 ∧ 0 + (i7).toNat ≤ l8.length) (chk (0 ≤ i7 ∧ 0 + (i7).toNat ≤ l8.length) (some (.next ((w64 (i7 + ((Nat.min ((0 + (i7).toNat) - 0) (l8.length - (0 + (i7).toNat))) : Int))), (cpL l8 (0 + (i7).toNat) (Nat.min ((0 + (i7).toNat) - 0) (l8.length - (0 + (i7).toNat))) (fun i => l8.getD (0 + i) ((0 : Int), (0 : Int))))))))) else (some (.done l8)))
noncomputable def m_slices_Repeat_2_int_2_int (a_x : List ((Int × Int))) (a_count : Int) : Option (List ((Int × Int))) :=
  (Option.bind (α := Unit) (bif (decide ((a_count : Int) < (0 : Int))) then none else (some (()))) (fun x1 => (match x1 with | _ => ((m_bits_Mul (wu64 (a_x.length : Int)) (wu64 a_count)).bind fun x3 => (Option.bind (α := Unit) (bif (bif (decide (((0 : Int) : Int) < x3.1)) then true else (decide (((9223372036854775807 : Int) : Int) < x3.2))) then none else (some (()))) (fun x4 => (match x4 with | _ => (chk (0 ≤ (w64 x3.2) ∧ (w64 x3.2) ≤ (w64 x3.2) ∧ (w64 x3.2) ≤ (room : Int)) ((loopO (S := (Int × List ((Int × Int)))) (X := List ((Int × Int))) m_slices_Repeat_2_int_2_int_L1 (((Nat.min a_x.length ((List.replicate ((w64 x3.2)).toNat ((0 : Int), (0 : Int))).length - 0)) : Int), (cpL (List.replicate ((w64 x3.2)).toNat ((0 : Int), (0 : Int))) 0 (Nat.min a_x.length ((List.replicate ((w64 x3.2)).toNat ((0 : Int), (0 : Int))).length - 0)) (fun i => a_x.getD i ((0 : Int), (0 : Int)))))).bind (fun x12 => ((some x12))))))))))))
theorem ok_slices_Repeat_2_int_2_int (a_x : List ((Int × Int))) (a_count : Int) (r : List ((Int × Int))) (h : m_slices_Repeat_2_int_2_int a_x a_count = some r) : Spec Try.prog 42 [(AV.list 2 eA2I64 ((0 : Int), (0 : Int)) a_x .none), (.int .i64 a_count)] [] (AV.list 2 eA2I64 ((0 : Int), (0 : Int)) r (.own 20000)) [(20000, .tok 2 36 r.length)] := by
  refine spec_of_awp (fn := Try.f42) Try.func42 rfl rfl (by kernel_rfl) (fun Γ hn hΓ => ?_)
  have hn : Γ.n = 48 := hn
  unfold m_slices_Repeat_2_int_2_int at h
  refine awp_seq ?_
  refine awp_region (rs := []) (cs := [(4, (AV.list 2 eA2I64 ((0 : Int), (0 : Int)) ([] : List (Int × Int)) .exact))]) (live := [0, 1]) (names := []) (st' := (⟨[(0, (AV.list 2 eA2I64 ((0 : Int), (0 : Int)) a_x .none)), (1, (.int .i64 a_count))], []⟩ : St)) (obs := [(AVle (.slice 0 0 (fun _ => []) .exact) (AV.list 2 eA2I64 ((0 : Int), (0 : Int)) ([] : List (Int × Int)) .exact))]) hn mix (no_hand hΓ) (by kernel_rfl) ⟨av_nil, trivial⟩ ?_
  refine then_normal ?_
  refine awp_seq ?_
  obtain ⟨x1, hx1, h⟩ := bind_some h
  refine awp_join (fun (_ : Unit) (e : Exit) (st : St) => e = .normal ∧ Le Γ st (⟨[(0, (AV.list 2 eA2I64 ((0 : Int), (0 : Int)) a_x .none)), (1, (.int .i64 a_count))], []⟩ : St)) hx1 ?_ ?_
  · clear h hx1
    intro y h
    refine awp_seq ?_
    refine awp_region (rs := []) (cs := []) (live := [0, 1, 10]) (names := []) (st' := (⟨[(0, (AV.list 2 eA2I64 ((0 : Int), (0 : Int)) a_x .none)), (1, (.int .i64 a_count)), (10, (.bool (decide ((a_count : Int) < (0 : Int)))))], []⟩ : St)) (obs := []) hn mix (no_hand hΓ) (by kernel_rfl) trivial ?_
    refine then_normal ?_
    refine awp_cond (decide ((a_count : Int) < (0 : Int))) (by kernel_rfl) (fun hb => ?_) (fun hb => ?_)
    · replace h := cond_t hb h
      clear hb
      cases h
    · replace h := cond_f hb h
      clear hb
      refine awp_skip ?_
      obtain rfl := Option.some.inj h
      exact ⟨rfl, le_restrict_eq [0, 1] [] (by kernel_rfl) (no_hand hΓ)⟩
  · clear hx1
    rintro e st' ⟨rfl, hl2⟩
    refine then_normal ?_
    refine awp_le hl2 ?_
    refine awp_seq ?_
    obtain ⟨x3, hx3, h⟩ := bind_some h
    refine awp_region (rs := [⟨[], [], (.tuple [(.int .u64 x3.1), (.int .u64 x3.2)]), []⟩]) (cs := []) (live := [0, 5, 6]) (names := []) (st' := (⟨[(0, (AV.list 2 eA2I64 ((0 : Int), (0 : Int)) a_x .none)), (5, (.int .u64 x3.1)), (6, (.int .u64 x3.2))], []⟩ : St)) (obs := [(Spec Try.prog 43 [(.int .u64 (wu64 (a_x.length : Int))), (.int .u64 (wu64 a_count))] [] (.tuple [(.int .u64 x3.1), (.int .u64 x3.2)]) [])]) hn mix (no_hand hΓ) (by kernel_rfl) ⟨(ok_bits_Mul (wu64 (a_x.length : Int)) (wu64 a_count) x3 hx3), trivial⟩ ?_
    refine then_normal ?_
    refine awp_seq ?_
    obtain ⟨x4, hx4, h⟩ := bind_some h
    refine awp_join (fun (_ : Unit) (e : Exit) (st : St) => e = .normal ∧ Le Γ st (⟨[(0, (AV.list 2 eA2I64 ((0 : Int), (0 : Int)) a_x .none)), (6, (.int .u64 x3.2))], []⟩ : St)) hx4 ?_ ?_
    · clear h hx4
      intro y h
      refine awp_seq ?_
      refine awp_region (rs := []) (cs := []) (live := [0, 6, 26]) (names := []) (st' := (⟨[(0, (AV.list 2 eA2I64 ((0 : Int), (0 : Int)) a_x .none)), (6, (.int .u64 x3.2)), (26, (.bool (bif (decide (((0 : Int) : Int) < x3.1)) then true else (decide (((9223372036854775807 : Int) : Int) < x3.2)))))], []⟩ : St)) (obs := [(((decide (((0 : Int) : Int) < x3.1)) == false) = true → ((decide (((0 : Int) : Int) < x3.1)) == false) = true), ((decide (((0 : Int) : Int) < x3.1)) = false → ((decide (((0 : Int) : Int) < x3.1)) == false) = true)]) hn mix (no_hand hΓ) (by kernel_rfl) ⟨(fun hg => hg), (fun hp => by rw [hp]; rfl), trivial⟩ ?_
      refine then_normal ?_
      refine awp_cond (bif (decide (((0 : Int) : Int) < x3.1)) then true else (decide (((9223372036854775807 : Int) : Int) < x3.2))) (by kernel_rfl) (fun hb => ?_) (fun hb => ?_)
      · replace h := cond_t hb h
        clear hb
        cases h
      · replace h := cond_f hb h
        clear hb
        refine awp_skip ?_
        obtain rfl := Option.some.inj h
        exact ⟨rfl, le_restrict_eq [0, 6] [] (by kernel_rfl) (no_hand hΓ)⟩
    · clear hx4
      rintro e st' ⟨rfl, hl5⟩
      refine then_normal ?_
      refine awp_le hl5 ?_
      refine awp_seq ?_
      obtain ⟨hc6, h⟩ := chk_some h
      refine awp_region (rs := []) (cs := []) (live := [0, 7]) (names := [30]) (st' := (⟨[(0, (AV.list 2 eA2I64 ((0 : Int), (0 : Int)) a_x .none)), (7, (.vsl 30 ((w64 x3.2)).toNat))], [(30, .arr 2 36 (((w64 x3.2)).toNat) (fun i_ => AV.eraseAll (fun n_ => memB n_ [30]) ((fun _ => [(.int .i64 (0 : Int)), (.int .i64 (0 : Int))]) i_)))]⟩ : St)) (obs := [(0 ≤ (w64 x3.2) ∧ (w64 x3.2) ≤ (w64 x3.2) ∧ (w64 x3.2) ≤ (room : Int))]) hn mix (no_hand hΓ) (by kernel_rfl) ⟨hc6, trivial⟩ ?_
      refine then_normal ?_
      refine awp_le (Le.trans (le_of (st' := (⟨[(0, (AV.list 2 eA2I64 ((0 : Int), (0 : Int)) a_x .none)), (7, (.vsl 30 ((w64 x3.2)).toNat))], [(30, .arr 2 36 (((w64 x3.2)).toNat) (fun i => eA2I64 ((List.replicate ((w64 x3.2)).toNat ((0 : Int), (0 : Int))).getD i ((0 : Int), (0 : Int)))))]⟩ : St)) (TmpsLe.refl _) (.arr (fun k hk => make_le (e := eA2I64) (d := ((0 : Int), (0 : Int))) (.cons (AVle.refl _) (.cons (AVle.refl _) .nil)) _ k (by simpa using hk)) .nil)) (le_eq (congrArg (fun k_ : Nat => (⟨[(0, (AV.list 2 eA2I64 ((0 : Int), (0 : Int)) a_x .none)), (7, (.vsl 30 k_))], [(30, .arr 2 36 k_ (fun i => eA2I64 ((List.replicate ((w64 x3.2)).toNat ((0 : Int), (0 : Int))).getD i ((0 : Int), (0 : Int)))))]⟩ : St)) (show ((w64 x3.2)).toNat = (List.replicate ((w64 x3.2)).toNat ((0 : Int), (0 : Int))).length from (List.length_replicate ..).symm)))) ?_
      refine awp_seq ?_
      refine awp_region (rs := []) (cs := []) (live := [7, 8]) (names := [30]) (st' := (⟨[(7, (.vsl 30 (List.replicate ((w64 x3.2)).toNat ((0 : Int), (0 : Int))).length)), (8, (.int .i64 ((Nat.min a_x.length ((List.replicate ((w64 x3.2)).toNat ((0 : Int), (0 : Int))).length - 0)) : Int)))], [(30, .arr 2 36 ((List.replicate ((w64 x3.2)).toNat ((0 : Int), (0 : Int))).length) (fun i_ => AV.eraseAll (fun n_ => memB n_ [30]) ((cpF (fun i => eA2I64 ((List.replicate ((w64 x3.2)).toNat ((0 : Int), (0 : Int))).getD i ((0 : Int), (0 : Int)))) 0 (Nat.min a_x.length ((List.replicate ((w64 x3.2)).toNat ((0 : Int), (0 : Int))).length - 0)) (fun i => eA2I64 (a_x.getD i ((0 : Int), (0 : Int))))) i_)))]⟩ : St)) (obs := [((List.replicate ((w64 x3.2)).toNat ((0 : Int), (0 : Int))).length = (List.replicate ((w64 x3.2)).toNat ((0 : Int), (0 : Int))).length)]) hn mix (no_hand hΓ) (by kernel_rfl) ⟨rfl, trivial⟩ ?_
      refine then_normal ?_
      refine awp_le (Le.trans (le_of (st' := (⟨[(7, (.vsl 30 (List.replicate ((w64 x3.2)).toNat ((0 : Int), (0 : Int))).length)), (8, (.int .i64 ((Nat.min a_x.length ((List.replicate ((w64 x3.2)).toNat ((0 : Int), (0 : Int))).length - 0)) : Int)))], [(30, .arr 2 36 ((List.replicate ((w64 x3.2)).toNat ((0 : Int), (0 : Int))).length) (fun i => eA2I64 ((cpL (List.replicate ((w64 x3.2)).toNat ((0 : Int), (0 : Int))) 0 (Nat.min a_x.length ((List.replicate ((w64 x3.2)).toNat ((0 : Int), (0 : Int))).length - 0)) (fun i => a_x.getD i ((0 : Int), (0 : Int)))).getD i ((0 : Int), (0 : Int)))))]⟩ : St)) (TmpsLe.refl _) (.arr (leL_of_eq (cpL_length ..) (fun k_ hk_ => (congrArg (AV.eraseAll (fun n_ => memB n_ [30])) ((cpF_cpL (e := eA2I64) (d := ((0 : Int), (0 : Int))) (l := (List.replicate ((w64 x3.2)).toNat ((0 : Int), (0 : Int)))) (s := (fun i => a_x.getD i ((0 : Int), (0 : Int)))) (fun _ _ => rfl) (fun _ _ => rfl)) k_ hk_)).trans rfl)) .nil)) (le_eq (congrArg (fun k_ : Nat => (⟨[(7, (.vsl 30 k_)), (8, (.int .i64 ((Nat.min a_x.length ((List.replicate ((w64 x3.2)).toNat ((0 : Int), (0 : Int))).length - 0)) : Int)))], [(30, .arr 2 36 k_ (fun i => eA2I64 ((cpL (List.replicate ((w64 x3.2)).toNat ((0 : Int), (0 : Int))) 0 (Nat.min a_x.length ((List.replicate ((w64 x3.2)).toNat ((0 : Int), (0 : Int))).length - 0)) (fun i => a_x.getD i ((0 : Int), (0 : Int)))).getD i ((0 : Int), (0 : Int)))))]⟩ : St)) (show (List.replicate ((w64 x3.2)).toNat ((0 : Int), (0 : Int))).length = (cpL (List.replicate ((w64 x3.2)).toNat ((0 : Int), (0 : Int))) 0 (Nat.min a_x.length ((List.replicate ((w64 x3.2)).toNat ((0 : Int), (0 : Int))).length - 0)) (fun i => a_x.getD i ((0 : Int), (0 : Int)))).length from (cpL_length ..))))) ?_
      refine awp_seq ?_
      refine awp_block ?_
      refine awp_le (st' := (fun ((i7, l8) : (Int × List ((Int × Int)))) => (⟨[(7, (.vsl 30 l8.length)), (8, (.int .i64 i7))], [(30, .arr 2 36 l8.length (fun i => eA2I64 (l8.getD i ((0 : Int), (0 : Int)))))]⟩ : St)) (((Nat.min a_x.length ((List.replicate ((w64 x3.2)).toNat ((0 : Int), (0 : Int))).length - 0)) : Int), (cpL (List.replicate ((w64 x3.2)).toNat ((0 : Int), (0 : Int))) 0 (Nat.min a_x.length ((List.replicate ((w64 x3.2)).toNat ((0 : Int), (0 : Int))).length - 0)) (fun i => a_x.getD i ((0 : Int), (0 : Int)))))) (Le.refl _ _) ?_
      obtain ⟨x12, hx12, h⟩ := bind_some h
      refine awp_loop (fun ((i7, l8) : (Int × List ((Int × Int)))) => (⟨[(7, (.vsl 30 l8.length)), (8, (.int .i64 i7))], [(30, .arr 2 36 l8.length (fun i => eA2I64 (l8.getD i ((0 : Int), (0 : Int)))))]⟩ : St)) _ (fun (l9 : List ((Int × Int))) (e : Exit) (st : St) => e = (.exit 0) ∧ Le Γ st (⟨[(7, (.vsl 30 l9.length))], [(30, .arr 2 36 l9.length (fun i => eA2I64 (l9.getD i ((0 : Int), (0 : Int)))))]⟩ : St)) ?_ hx12 ?_
      · rintro ⟨i7, l8⟩ y h
        unfold m_slices_Repeat_2_int_2_int_L1 at h
        refine awp_seq ?_
        refine awp_seq ?_
        refine awp_region (rs := []) (cs := []) (live := [7, 8, 37]) (names := [30]) (st' := (⟨[(7, (.vsl 30 l8.length)), (8, (.int .i64 i7)), (37, (.bool (decide ((i7 : Int) < (l8.length : Int)))))], [(30, .arr 2 36 l8.length (fun i => eA2I64 (l8.getD i ((0 : Int), (0 : Int)))))]⟩ : St)) (obs := []) hn mix (no_hand hΓ) (by kernel_rfl) trivial ?_
        refine then_normal ?_
        refine awp_cond (decide ((i7 : Int) < (l8.length : Int))) (by kernel_rfl) (fun hb => ?_) (fun hb => ?_)
        · replace h := cond_t hb h
          clear hb
          refine awp_skip ?_
          refine then_normal ?_
          refine awp_block ?_
          obtain ⟨hc10, h⟩ := chk_some h
          obtain ⟨hc11, h⟩ := chk_some h
          refine awp_region (rs := []) (cs := []) (live := [7, 8]) (names := [30]) (st' := (⟨[(7, (.vsl 30 l8.length)), (8, (.int .i64 (w64 (i7 + ((Nat.min ((0 + (i7).toNat) - 0) (l8.length - (0 + (i7).toNat))) : Int)))))], [(30, .arr 2 36 l8.length (fun i_ => AV.eraseAll (fun n_ => memB n_ [30]) ((cpF (fun i => eA2I64 (l8.getD i ((0 : Int), (0 : Int)))) (0 + (i7).toNat) (Nat.min ((0 + (i7).toNat) - 0) (l8.length - (0 + (i7).toNat))) (fun i => (fun i => eA2I64 (l8.getD i ((0 : Int), (0 : Int)))) (0 + i))) i_)))]⟩ : St)) (obs := [(0 ≤ i7 ∧ 0 + (i7).toNat ≤ l8.length), (0 ≤ i7 ∧ 0 + (i7).toNat ≤ l8.length), (l8.length = l8.length), (l8.length = l8.length)]) hn mix (no_hand hΓ) (by kernel_rfl) ⟨hc10, hc11, rfl, rfl, trivial⟩ ?_
          refine block_normal ?_
          obtain rfl := Option.some.inj h
          exact ⟨rfl, Le.trans (Le.trans (le_of (st' := (⟨[(7, (.vsl 30 l8.length)), (8, (.int .i64 (w64 (i7 + ((Nat.min ((0 + (i7).toNat) - 0) (l8.length - (0 + (i7).toNat))) : Int)))))], [(30, .arr 2 36 l8.length (fun i => eA2I64 ((cpL l8 (0 + (i7).toNat) (Nat.min ((0 + (i7).toNat) - 0) (l8.length - (0 + (i7).toNat))) (fun i => l8.getD (0 + i) ((0 : Int), (0 : Int)))).getD i ((0 : Int), (0 : Int)))))]⟩ : St)) (TmpsLe.refl _) (.arr (leL_of_eq (cpL_length ..) (fun k_ hk_ => (congrArg (AV.eraseAll (fun n_ => memB n_ [30])) ((cpF_cpL (e := eA2I64) (d := ((0 : Int), (0 : Int))) (l := l8) (s := (fun i => l8.getD (0 + i) ((0 : Int), (0 : Int)))) (fun _ _ => rfl) (fun _ _ => rfl)) k_ hk_)).trans rfl)) .nil)) (le_eq (congrArg (fun k_ : Nat => (⟨[(7, (.vsl 30 k_)), (8, (.int .i64 (w64 (i7 + ((Nat.min ((0 + (i7).toNat) - 0) (l8.length - (0 + (i7).toNat))) : Int)))))], [(30, .arr 2 36 k_ (fun i => eA2I64 ((cpL l8 (0 + (i7).toNat) (Nat.min ((0 + (i7).toNat) - 0) (l8.length - (0 + (i7).toNat))) (fun i => l8.getD (0 + i) ((0 : Int), (0 : Int)))).getD i ((0 : Int), (0 : Int)))))]⟩ : St)) (show l8.length = (cpL l8 (0 + (i7).toNat) (Nat.min ((0 + (i7).toNat) - 0) (l8.length - (0 + (i7).toNat))) (fun i => l8.getD (0 + i) ((0 : Int), (0 : Int)))).length from (cpL_length ..))))) (Le.refl _ _)⟩
        · replace h := cond_f hb h
          clear hb
          refine awp_exit ?_
          refine then_exit ?_
          obtain rfl := Option.some.inj h
          exact ⟨(by intro hh; cases hh), rfl, le_restrict_eq [7] [30] (by kernel_rfl) (no_hand hΓ)⟩
      · clear hx12
        rintro e st' ⟨rfl, hl13⟩
        refine block_here ?_
        refine then_normal ?_
        refine awp_le hl13 ?_
        refine awp_seq ?_
        refine awp_region (rs := []) (cs := []) (live := [4]) (names := [30]) (st' := (⟨[(4, (.vsl 30 x12.length))], [(30, .arr 2 36 x12.length (fun i => eA2I64 (x12.getD i ((0 : Int), (0 : Int)))))]⟩ : St)) (obs := []) hn mix (no_hand hΓ) (by kernel_rfl) trivial ?_
        refine then_normal ?_
        refine awp_le (Le.trans (le_freeze (nm := 30) (sz := 2) (n := x12.length) (e := 36) (f := (fun i => eA2I64 (x12.getD i ((0 : Int), (0 : Int))))) (g := (fun i => eA2I64 (x12.getD i ((0 : Int), (0 : Int))))) rfl ⟨rfl, trivial⟩ (fun _ _ => rfl) (by rw [hΓ]; rfl)) (le_eq (st' := (⟨[(4, (AV.list 2 eA2I64 ((0 : Int), (0 : Int)) x12 (.own 30)))], [(30, .tok 2 36 x12.length)]⟩ : St)) (by kernel_rfl))) ?_
        refine awp_ret ?_
        obtain rfl := Option.some.inj h
        exact ⟨.inl rfl, [(30, 20000)], by kernel_rfl⟩

noncomputable def m_kind_takes (a_o : TOp) : Option (List ((Int × Int))) :=
  (bif ((a_o.Kind : Int) == (0 : Int)) then ((m_kind_row ([] : List (Int × Int))).bind fun x1 => (some x1)) else (bif ((a_o.Kind : Int) == (13 : Int)) then ((m_kind_row ([((1 : Int), (1 : Int)), (a_o.Bits, a_o.Lanes), (a_o.Bits, a_o.Lanes)] : List ((Int × Int)))).bind fun x2 => (some x2)) else (Option.bind (α := Bool) (bif ((a_o.Kind : Int) == (14 : Int)) then (some (((a_o.Kind : Int) == (14 : Int)))) else (some (((a_o.Kind : Int) == (15 : Int))))) (fun x4 => ((bif x4 then ((m_kind_row ([((w64 a_o.Imm), (1 : Int))] : List ((Int × Int)))).bind fun x6 => (some x6)) else (bif ((a_o.Kind : Int) == (16 : Int)) then ((m_kind_row ([((64 : Int), (1 : Int))] : List ((Int × Int)))).bind fun x7 => (some x7)) else (bif ((a_o.Kind : Int) == (17 : Int)) then ((m_kind_row ([((64 : Int), (1 : Int)), (a_o.Bits, a_o.Lanes)] : List ((Int × Int)))).bind fun x8 => (some x8)) else (Option.bind (α := Bool) (bif ((a_o.Kind : Int) == (18 : Int)) then (some (((a_o.Kind : Int) == (18 : Int)))) else (some (((a_o.Kind : Int) == (19 : Int))))) (fun x10 => ((bif x10 then ((m_kind_row ([((1 : Int), (1 : Int)), ((64 : Int), (1 : Int)), (a_o.Bits, (1 : Int))] : List ((Int × Int)))).bind fun x12 => (some x12)) else (bif ((a_o.Kind : Int) == (20 : Int)) then ((m_kind_row ([((1 : Int), (1 : Int)), (a_o.Bits, (1 : Int)), (a_o.Bits, (1 : Int)), (a_o.Bits, (1 : Int))] : List ((Int × Int)))).bind fun x13 => (some x13)) else (bif ((a_o.Kind : Int) == (21 : Int)) then ((m_slices_Repeat_2_int_2_int ([(a_o.Bits, (1 : Int))] : List ((Int × Int))) a_o.Lanes).bind fun x14 => ((m_kind_row x14).bind fun x15 => (some x15))) else (bif ((a_o.Kind : Int) == (22 : Int)) then ((m_kind_row ([(a_o.Bits, a_o.Lanes)] : List ((Int × Int)))).bind fun x16 => (some x16)) else ((m_kind_row ([(a_o.Bits, a_o.Lanes), (a_o.Bits, a_o.Lanes)] : List ((Int × Int)))).bind fun x17 => (some x17)))))))))))))))))
theorem ok_kind_takes (a_o : TOp) (r : List ((Int × Int))) (h : m_kind_takes a_o = some r) : Spec Try.prog 32 [(.agg (eTOp a_o))] [] (AV.list 2 eA2I64 ((0 : Int), (0 : Int)) r .none) [] := by
  refine spec_of_awp (fn := Try.f32) Try.func32 rfl rfl (by kernel_rfl) (fun Γ hn hΓ => ?_)
  have hn : Γ.n = 82 := hn
  unfold m_kind_takes at h
  refine awp_seq ?_
  refine awp_region (rs := []) (cs := [(2, (AV.list 2 eA2I64 ((0 : Int), (0 : Int)) ([] : List (Int × Int)) .exact))]) (live := [1]) (names := [1]) (st' := (⟨[(1, (.ptr 1 0))], [(1, .row [(.int .i64 a_o.Kind), (.int .i64 a_o.Bits), (.int .i64 a_o.Lanes), (.int .i64 a_o.Dst), (AV.list 1 eI64 (0 : Int) a_o.Args .none), (.int .u64 a_o.Imm)])]⟩ : St)) (obs := [(AVle (.slice 0 0 (fun _ => []) .exact) (AV.list 2 eA2I64 ((0 : Int), (0 : Int)) ([] : List (Int × Int)) .exact))]) hn mix (no_hand hΓ) (by kernel_rfl) ⟨av_nil, trivial⟩ ?_
  refine then_normal ?_
  refine awp_seq ?_
  refine awp_region (rs := []) (cs := []) (live := [1, 3, 4]) (names := [1, 3, 4]) (st' := (⟨[(1, (.ptr 1 0)), (3, (.ptr 3 0)), (4, (.ptr 4 0))], [(1, .row [(.int .i64 a_o.Kind), (.int .i64 a_o.Bits), (.int .i64 a_o.Lanes), (.int .i64 a_o.Dst), (AV.list 1 eI64 (0 : Int) a_o.Args .none), (.int .u64 a_o.Imm)]), (3, .row [(.int .i64 (1 : Int)), (.int .i64 (1 : Int))]), (4, .row [(.int .i64 (64 : Int)), (.int .i64 (1 : Int))])]⟩ : St)) (obs := [(0 + List.length (α := AV) [(.int .i64 (1 : Int)), (.int .i64 (1 : Int))] ≤ List.length (α := AV) [(.int .i64 (0 : Int)), (.int .i64 (0 : Int))]), (0 + List.length (α := AV) [(.int .i64 (64 : Int)), (.int .i64 (1 : Int))] ≤ List.length (α := AV) [(.int .i64 (0 : Int)), (.int .i64 (0 : Int))])]) hn mix (no_hand hΓ) (by kernel_rfl) ⟨(Nat.le_of_ble_eq_true rfl), (Nat.le_of_ble_eq_true rfl), trivial⟩ ?_
  refine then_normal ?_
  refine awp_seq ?_
  refine awp_region (rs := []) (cs := []) (live := [1, 3, 4, 5, 6]) (names := [1, 3, 4, 5, 6]) (st' := (⟨[(1, (.ptr 1 0)), (3, (.ptr 3 0)), (4, (.ptr 4 0)), (5, (.ptr 5 0)), (6, (.ptr 6 0))], [(1, .row [(.int .i64 a_o.Kind), (.int .i64 a_o.Bits), (.int .i64 a_o.Lanes), (.int .i64 a_o.Dst), (AV.list 1 eI64 (0 : Int) a_o.Args .none), (.int .u64 a_o.Imm)]), (3, .row [(.int .i64 (1 : Int)), (.int .i64 (1 : Int))]), (4, .row [(.int .i64 (64 : Int)), (.int .i64 (1 : Int))]), (5, .row [(.int .i64 a_o.Bits), (.int .i64 a_o.Lanes)]), (6, .row [(.int .i64 a_o.Bits), (.int .i64 (1 : Int))])]⟩ : St)) (obs := [(1 < List.length (α := AV) [(.int .i64 a_o.Kind), (.int .i64 a_o.Bits), (.int .i64 a_o.Lanes), (.int .i64 a_o.Dst), (AV.list 1 eI64 (0 : Int) a_o.Args .none), (.int .u64 a_o.Imm)]), (2 < List.length (α := AV) [(.int .i64 a_o.Kind), (.int .i64 a_o.Bits), (.int .i64 a_o.Lanes), (.int .i64 a_o.Dst), (AV.list 1 eI64 (0 : Int) a_o.Args .none), (.int .u64 a_o.Imm)]), (1 < List.length (α := AV) [(.int .i64 a_o.Kind), (.int .i64 a_o.Bits), (.int .i64 a_o.Lanes), (.int .i64 a_o.Dst), (AV.list 1 eI64 (0 : Int) a_o.Args .none), (.int .u64 a_o.Imm)]), (0 + List.length (α := AV) [(.int .i64 a_o.Bits), (.int .i64 a_o.Lanes)] ≤ List.length (α := AV) [(.int .i64 (0 : Int)), (.int .i64 (0 : Int))]), (0 + List.length (α := AV) [(.int .i64 a_o.Bits), (.int .i64 (1 : Int))] ≤ List.length (α := AV) [(.int .i64 (0 : Int)), (.int .i64 (0 : Int))])]) hn mix (no_hand hΓ) (by kernel_rfl) ⟨(Nat.le_of_ble_eq_true rfl), (Nat.le_of_ble_eq_true rfl), (Nat.le_of_ble_eq_true rfl), (Nat.le_of_ble_eq_true rfl), (Nat.le_of_ble_eq_true rfl), trivial⟩ ?_
  refine then_normal ?_
  refine awp_seq ?_
  refine awp_seq ?_
  refine awp_region (rs := []) (cs := []) (live := [1, 3, 4, 5, 6, 18]) (names := [1, 3, 4, 5, 6]) (st' := (⟨[(1, (.ptr 1 0)), (3, (.ptr 3 0)), (4, (.ptr 4 0)), (5, (.ptr 5 0)), (6, (.ptr 6 0)), (18, (.int .i64 a_o.Kind))], [(1, .row [(.int .i64 a_o.Kind), (.int .i64 a_o.Bits), (.int .i64 a_o.Lanes), (.int .i64 a_o.Dst), (AV.list 1 eI64 (0 : Int) a_o.Args .none), (.int .u64 a_o.Imm)]), (3, .row [(.int .i64 (1 : Int)), (.int .i64 (1 : Int))]), (4, .row [(.int .i64 (64 : Int)), (.int .i64 (1 : Int))]), (5, .row [(.int .i64 a_o.Bits), (.int .i64 a_o.Lanes)]), (6, .row [(.int .i64 a_o.Bits), (.int .i64 (1 : Int))])]⟩ : St)) (obs := [(0 < List.length (α := AV) [(.int .i64 a_o.Kind), (.int .i64 a_o.Bits), (.int .i64 a_o.Lanes), (.int .i64 a_o.Dst), (AV.list 1 eI64 (0 : Int) a_o.Args .none), (.int .u64 a_o.Imm)])]) hn mix (no_hand hΓ) (by kernel_rfl) ⟨(Nat.le_of_ble_eq_true rfl), trivial⟩ ?_
  refine then_normal ?_
  refine awp_block ?_
  refine awp_seq ?_
  refine awp_region (rs := []) (cs := []) (live := [1, 3, 4, 5, 6, 18, 19]) (names := [1, 3, 4, 5, 6]) (st' := (⟨[(1, (.ptr 1 0)), (3, (.ptr 3 0)), (4, (.ptr 4 0)), (5, (.ptr 5 0)), (6, (.ptr 6 0)), (18, (.int .i64 a_o.Kind)), (19, (.bool ((a_o.Kind : Int) == (0 : Int))))], [(1, .row [(.int .i64 a_o.Kind), (.int .i64 a_o.Bits), (.int .i64 a_o.Lanes), (.int .i64 a_o.Dst), (AV.list 1 eI64 (0 : Int) a_o.Args .none), (.int .u64 a_o.Imm)]), (3, .row [(.int .i64 (1 : Int)), (.int .i64 (1 : Int))]), (4, .row [(.int .i64 (64 : Int)), (.int .i64 (1 : Int))]), (5, .row [(.int .i64 a_o.Bits), (.int .i64 a_o.Lanes)]), (6, .row [(.int .i64 a_o.Bits), (.int .i64 (1 : Int))])]⟩ : St)) (obs := []) hn mix (no_hand hΓ) (by kernel_rfl) trivial ?_
  refine then_normal ?_
  refine awp_cond ((a_o.Kind : Int) == (0 : Int)) (by kernel_rfl) (fun hb => ?_) (fun hb => ?_)
  · replace h := cond_t hb h
    clear hb
    refine awp_seq ?_
    obtain ⟨x1, hx1, h⟩ := bind_some h
    refine awp_region (rs := [⟨[], [], (AV.list 2 eA2I64 ((0 : Int), (0 : Int)) x1 .none), []⟩]) (cs := []) (live := [2]) (names := []) (st' := (⟨[(2, (AV.list 2 eA2I64 ((0 : Int), (0 : Int)) x1 .none))], []⟩ : St)) (obs := [(Spec Try.prog 41 [(.slice 0 0 (fun _ => []) .none)] [] (AV.list 2 eA2I64 ((0 : Int), (0 : Int)) x1 .none) [])]) hn mix (no_hand hΓ) (by kernel_rfl) ⟨(Spec.args (.cons av_nil0 .nil) (ok_kind_row ([] : List (Int × Int)) x1 hx1)), trivial⟩ ?_
    refine then_normal ?_
    refine awp_ret ?_
    refine block_ret ?_
    refine then_ret ?_
    obtain rfl := Option.some.inj h
    exact ⟨.inl rfl, [], by kernel_rfl⟩
  · replace h := cond_f hb h
    clear hb
    refine awp_seq ?_
    refine awp_region (rs := []) (cs := []) (live := [1, 3, 4, 5, 6, 18, 22]) (names := [1, 3, 4, 5, 6]) (st' := (⟨[(1, (.ptr 1 0)), (3, (.ptr 3 0)), (4, (.ptr 4 0)), (5, (.ptr 5 0)), (6, (.ptr 6 0)), (18, (.int .i64 a_o.Kind)), (22, (.bool ((a_o.Kind : Int) == (13 : Int))))], [(1, .row [(.int .i64 a_o.Kind), (.int .i64 a_o.Bits), (.int .i64 a_o.Lanes), (.int .i64 a_o.Dst), (AV.list 1 eI64 (0 : Int) a_o.Args .none), (.int .u64 a_o.Imm)]), (3, .row [(.int .i64 (1 : Int)), (.int .i64 (1 : Int))]), (4, .row [(.int .i64 (64 : Int)), (.int .i64 (1 : Int))]), (5, .row [(.int .i64 a_o.Bits), (.int .i64 a_o.Lanes)]), (6, .row [(.int .i64 a_o.Bits), (.int .i64 (1 : Int))])]⟩ : St)) (obs := []) hn mix (no_hand hΓ) (by kernel_rfl) trivial ?_
    refine then_normal ?_
    refine awp_cond ((a_o.Kind : Int) == (13 : Int)) (by kernel_rfl) (fun hb => ?_) (fun hb => ?_)
    · replace h := cond_t hb h
      clear hb
      refine awp_seq ?_
      obtain ⟨x2, hx2, h⟩ := bind_some h
      refine awp_region (rs := [⟨[], [], (AV.list 2 eA2I64 ((0 : Int), (0 : Int)) x2 .none), []⟩]) (cs := [(27, (AV.list 2 eA2I64 ((0 : Int), (0 : Int)) ([((1 : Int), (1 : Int)), (a_o.Bits, a_o.Lanes), (a_o.Bits, a_o.Lanes)] : List ((Int × Int))) .exact))]) (live := [2]) (names := []) (st' := (⟨[(2, (AV.list 2 eA2I64 ((0 : Int), (0 : Int)) x2 .none))], []⟩ : St)) (obs := [(0 + 2 ≤ List.length (α := AV) [(.int .i64 (1 : Int)), (.int .i64 (1 : Int))]), (0 + 2 ≤ List.length (α := AV) [(.int .i64 a_o.Bits), (.int .i64 a_o.Lanes)]), (0 + 2 ≤ List.length (α := AV) [(.int .i64 a_o.Bits), (.int .i64 a_o.Lanes)]), (AVle (.slice 2 3 (fun i => ([[(.int .i64 (1 : Int)), (.int .i64 (1 : Int))], [(.int .i64 a_o.Bits), (.int .i64 a_o.Lanes)], [(.int .i64 a_o.Bits), (.int .i64 a_o.Lanes)]] : List (List AV)).getD i []) .exact) (AV.list 2 eA2I64 ((0 : Int), (0 : Int)) ([((1 : Int), (1 : Int)), (a_o.Bits, a_o.Lanes), (a_o.Bits, a_o.Lanes)] : List ((Int × Int))) .exact)), (Spec Try.prog 41 [(AV.list 2 eA2I64 ((0 : Int), (0 : Int)) ([((1 : Int), (1 : Int)), (a_o.Bits, a_o.Lanes), (a_o.Bits, a_o.Lanes)] : List ((Int × Int))) .none)] [] (AV.list 2 eA2I64 ((0 : Int), (0 : Int)) x2 .none) [])]) hn mix (no_hand hΓ) (by kernel_rfl) ⟨(Nat.le_of_ble_eq_true rfl), (Nat.le_of_ble_eq_true rfl), (Nat.le_of_ble_eq_true rfl), (av_lit rfl (fun i hi => map_get (e := eA2I64) (d := ((0 : Int), (0 : Int))) ([((1 : Int), (1 : Int)), (a_o.Bits, a_o.Lanes), (a_o.Bits, a_o.Lanes)] : List ((Int × Int))) i hi)), (ok_kind_row ([((1 : Int), (1 : Int)), (a_o.Bits, a_o.Lanes), (a_o.Bits, a_o.Lanes)] : List ((Int × Int))) x2 hx2), trivial⟩ ?_
      refine then_normal ?_
      refine awp_ret ?_
      refine block_ret ?_
      refine then_ret ?_
      obtain rfl := Option.some.inj h
      exact ⟨.inl rfl, [], by kernel_rfl⟩
    · replace h := cond_f hb h
      clear hb
      refine awp_seq ?_
      obtain ⟨x4, hx4, h⟩ := bind_some h
      refine awp_join (fun (b3 : Bool) (e : Exit) (st : St) => e = .normal ∧ Le Γ st (⟨[(1, (.ptr 1 0)), (3, (.ptr 3 0)), (4, (.ptr 4 0)), (5, (.ptr 5 0)), (6, (.ptr 6 0)), (18, (.int .i64 a_o.Kind)), (29, (.bool b3))], [(1, .row [(.int .i64 a_o.Kind), (.int .i64 a_o.Bits), (.int .i64 a_o.Lanes), (.int .i64 a_o.Dst), (AV.list 1 eI64 (0 : Int) a_o.Args .none), (.int .u64 a_o.Imm)]), (3, .row [(.int .i64 (1 : Int)), (.int .i64 (1 : Int))]), (4, .row [(.int .i64 (64 : Int)), (.int .i64 (1 : Int))]), (5, .row [(.int .i64 a_o.Bits), (.int .i64 a_o.Lanes)]), (6, .row [(.int .i64 a_o.Bits), (.int .i64 (1 : Int))])]⟩ : St)) hx4 ?_ ?_
      · clear h hx4
        intro y h
        refine awp_seq ?_
        refine awp_region (rs := []) (cs := []) (live := [1, 3, 4, 5, 6, 18, 29]) (names := [1, 3, 4, 5, 6]) (st' := (⟨[(1, (.ptr 1 0)), (3, (.ptr 3 0)), (4, (.ptr 4 0)), (5, (.ptr 5 0)), (6, (.ptr 6 0)), (18, (.int .i64 a_o.Kind)), (29, (.bool ((a_o.Kind : Int) == (14 : Int))))], [(1, .row [(.int .i64 a_o.Kind), (.int .i64 a_o.Bits), (.int .i64 a_o.Lanes), (.int .i64 a_o.Dst), (AV.list 1 eI64 (0 : Int) a_o.Args .none), (.int .u64 a_o.Imm)]), (3, .row [(.int .i64 (1 : Int)), (.int .i64 (1 : Int))]), (4, .row [(.int .i64 (64 : Int)), (.int .i64 (1 : Int))]), (5, .row [(.int .i64 a_o.Bits), (.int .i64 a_o.Lanes)]), (6, .row [(.int .i64 a_o.Bits), (.int .i64 (1 : Int))])]⟩ : St)) (obs := []) hn mix (no_hand hΓ) (by kernel_rfl) trivial ?_
        refine then_normal ?_
        refine awp_cond ((a_o.Kind : Int) == (14 : Int)) (by kernel_rfl) (fun hb => ?_) (fun hb => ?_)
        · replace h := cond_t hb h
          clear hb
          refine awp_skip ?_
          obtain rfl := Option.some.inj h
          exact ⟨rfl, Le.refl _ _⟩
        · replace h := cond_f hb h
          clear hb
          refine awp_region (rs := []) (cs := []) (live := [1, 3, 4, 5, 6, 18, 29]) (names := [1, 3, 4, 5, 6]) (st' := (⟨[(1, (.ptr 1 0)), (3, (.ptr 3 0)), (4, (.ptr 4 0)), (5, (.ptr 5 0)), (6, (.ptr 6 0)), (18, (.int .i64 a_o.Kind)), (29, (.bool ((a_o.Kind : Int) == (15 : Int))))], [(1, .row [(.int .i64 a_o.Kind), (.int .i64 a_o.Bits), (.int .i64 a_o.Lanes), (.int .i64 a_o.Dst), (AV.list 1 eI64 (0 : Int) a_o.Args .none), (.int .u64 a_o.Imm)]), (3, .row [(.int .i64 (1 : Int)), (.int .i64 (1 : Int))]), (4, .row [(.int .i64 (64 : Int)), (.int .i64 (1 : Int))]), (5, .row [(.int .i64 a_o.Bits), (.int .i64 a_o.Lanes)]), (6, .row [(.int .i64 a_o.Bits), (.int .i64 (1 : Int))])]⟩ : St)) (obs := []) hn mix (no_hand hΓ) (by kernel_rfl) trivial ?_
          obtain rfl := Option.some.inj h
          exact ⟨rfl, Le.refl _ _⟩
      · clear hx4
        rintro e st' ⟨rfl, hl5⟩
        refine then_normal ?_
        refine awp_le hl5 ?_
        refine awp_cond x4 (by kernel_rfl) (fun hb => ?_) (fun hb => ?_)
        · replace h := cond_t hb h
          clear hb
          refine awp_seq ?_
          obtain ⟨x6, hx6, h⟩ := bind_some h
          refine awp_region (rs := [⟨[], [], (AV.list 2 eA2I64 ((0 : Int), (0 : Int)) x6 .none), []⟩]) (cs := [(36, (AV.list 2 eA2I64 ((0 : Int), (0 : Int)) ([((w64 a_o.Imm), (1 : Int))] : List ((Int × Int))) .exact))]) (live := [2]) (names := []) (st' := (⟨[(2, (AV.list 2 eA2I64 ((0 : Int), (0 : Int)) x6 .none))], []⟩ : St)) (obs := [(5 < List.length (α := AV) [(.int .i64 a_o.Kind), (.int .i64 a_o.Bits), (.int .i64 a_o.Lanes), (.int .i64 a_o.Dst), (AV.list 1 eI64 (0 : Int) a_o.Args .none), (.int .u64 a_o.Imm)]), (AVle (.slice 2 1 (fun i => ([[(.int .i64 (w64 a_o.Imm)), (.int .i64 (1 : Int))]] : List (List AV)).getD i []) .exact) (AV.list 2 eA2I64 ((0 : Int), (0 : Int)) ([((w64 a_o.Imm), (1 : Int))] : List ((Int × Int))) .exact)), (Spec Try.prog 41 [(AV.list 2 eA2I64 ((0 : Int), (0 : Int)) ([((w64 a_o.Imm), (1 : Int))] : List ((Int × Int))) .none)] [] (AV.list 2 eA2I64 ((0 : Int), (0 : Int)) x6 .none) [])]) hn mix (no_hand hΓ) (by kernel_rfl) ⟨(Nat.le_of_ble_eq_true rfl), (av_lit rfl (fun i hi => map_get (e := eA2I64) (d := ((0 : Int), (0 : Int))) ([((w64 a_o.Imm), (1 : Int))] : List ((Int × Int))) i hi)), (ok_kind_row ([((w64 a_o.Imm), (1 : Int))] : List ((Int × Int))) x6 hx6), trivial⟩ ?_
          refine then_normal ?_
          refine awp_ret ?_
          refine block_ret ?_
          refine then_ret ?_
          obtain rfl := Option.some.inj h
          exact ⟨.inl rfl, [], by kernel_rfl⟩
        · replace h := cond_f hb h
          clear hb
          refine awp_seq ?_
          refine awp_region (rs := []) (cs := []) (live := [1, 3, 4, 5, 6, 18, 38]) (names := [1, 3, 4, 5, 6]) (st' := (⟨[(1, (.ptr 1 0)), (3, (.ptr 3 0)), (4, (.ptr 4 0)), (5, (.ptr 5 0)), (6, (.ptr 6 0)), (18, (.int .i64 a_o.Kind)), (38, (.bool ((a_o.Kind : Int) == (16 : Int))))], [(1, .row [(.int .i64 a_o.Kind), (.int .i64 a_o.Bits), (.int .i64 a_o.Lanes), (.int .i64 a_o.Dst), (AV.list 1 eI64 (0 : Int) a_o.Args .none), (.int .u64 a_o.Imm)]), (3, .row [(.int .i64 (1 : Int)), (.int .i64 (1 : Int))]), (4, .row [(.int .i64 (64 : Int)), (.int .i64 (1 : Int))]), (5, .row [(.int .i64 a_o.Bits), (.int .i64 a_o.Lanes)]), (6, .row [(.int .i64 a_o.Bits), (.int .i64 (1 : Int))])]⟩ : St)) (obs := []) hn mix (no_hand hΓ) (by kernel_rfl) trivial ?_
          refine then_normal ?_
          refine awp_cond ((a_o.Kind : Int) == (16 : Int)) (by kernel_rfl) (fun hb => ?_) (fun hb => ?_)
          · replace h := cond_t hb h
            clear hb
            refine awp_seq ?_
            obtain ⟨x7, hx7, h⟩ := bind_some h
            refine awp_region (rs := [⟨[], [], (AV.list 2 eA2I64 ((0 : Int), (0 : Int)) x7 .none), []⟩]) (cs := [(41, (AV.list 2 eA2I64 ((0 : Int), (0 : Int)) ([((64 : Int), (1 : Int))] : List ((Int × Int))) .exact))]) (live := [2]) (names := []) (st' := (⟨[(2, (AV.list 2 eA2I64 ((0 : Int), (0 : Int)) x7 .none))], []⟩ : St)) (obs := [(0 + 2 ≤ List.length (α := AV) [(.int .i64 (64 : Int)), (.int .i64 (1 : Int))]), (AVle (.slice 2 1 (fun i => ([[(.int .i64 (64 : Int)), (.int .i64 (1 : Int))]] : List (List AV)).getD i []) .exact) (AV.list 2 eA2I64 ((0 : Int), (0 : Int)) ([((64 : Int), (1 : Int))] : List ((Int × Int))) .exact)), (Spec Try.prog 41 [(AV.list 2 eA2I64 ((0 : Int), (0 : Int)) ([((64 : Int), (1 : Int))] : List ((Int × Int))) .none)] [] (AV.list 2 eA2I64 ((0 : Int), (0 : Int)) x7 .none) [])]) hn mix (no_hand hΓ) (by kernel_rfl) ⟨(Nat.le_of_ble_eq_true rfl), (av_lit rfl (fun i hi => map_get (e := eA2I64) (d := ((0 : Int), (0 : Int))) ([((64 : Int), (1 : Int))] : List ((Int × Int))) i hi)), (ok_kind_row ([((64 : Int), (1 : Int))] : List ((Int × Int))) x7 hx7), trivial⟩ ?_
            refine then_normal ?_
            refine awp_ret ?_
            refine block_ret ?_
            refine then_ret ?_
            obtain rfl := Option.some.inj h
            exact ⟨.inl rfl, [], by kernel_rfl⟩
          · replace h := cond_f hb h
            clear hb
            refine awp_seq ?_
            refine awp_region (rs := []) (cs := []) (live := [1, 3, 4, 5, 6, 18, 43]) (names := [1, 3, 4, 5, 6]) (st' := (⟨[(1, (.ptr 1 0)), (3, (.ptr 3 0)), (4, (.ptr 4 0)), (5, (.ptr 5 0)), (6, (.ptr 6 0)), (18, (.int .i64 a_o.Kind)), (43, (.bool ((a_o.Kind : Int) == (17 : Int))))], [(1, .row [(.int .i64 a_o.Kind), (.int .i64 a_o.Bits), (.int .i64 a_o.Lanes), (.int .i64 a_o.Dst), (AV.list 1 eI64 (0 : Int) a_o.Args .none), (.int .u64 a_o.Imm)]), (3, .row [(.int .i64 (1 : Int)), (.int .i64 (1 : Int))]), (4, .row [(.int .i64 (64 : Int)), (.int .i64 (1 : Int))]), (5, .row [(.int .i64 a_o.Bits), (.int .i64 a_o.Lanes)]), (6, .row [(.int .i64 a_o.Bits), (.int .i64 (1 : Int))])]⟩ : St)) (obs := []) hn mix (no_hand hΓ) (by kernel_rfl) trivial ?_
            refine then_normal ?_
            refine awp_cond ((a_o.Kind : Int) == (17 : Int)) (by kernel_rfl) (fun hb => ?_) (fun hb => ?_)
            · replace h := cond_t hb h
              clear hb
              refine awp_seq ?_
              obtain ⟨x8, hx8, h⟩ := bind_some h
              refine awp_region (rs := [⟨[], [], (AV.list 2 eA2I64 ((0 : Int), (0 : Int)) x8 .none), []⟩]) (cs := [(47, (AV.list 2 eA2I64 ((0 : Int), (0 : Int)) ([((64 : Int), (1 : Int)), (a_o.Bits, a_o.Lanes)] : List ((Int × Int))) .exact))]) (live := [2]) (names := []) (st' := (⟨[(2, (AV.list 2 eA2I64 ((0 : Int), (0 : Int)) x8 .none))], []⟩ : St)) (obs := [(0 + 2 ≤ List.length (α := AV) [(.int .i64 (64 : Int)), (.int .i64 (1 : Int))]), (0 + 2 ≤ List.length (α := AV) [(.int .i64 a_o.Bits), (.int .i64 a_o.Lanes)]), (AVle (.slice 2 2 (fun i => ([[(.int .i64 (64 : Int)), (.int .i64 (1 : Int))], [(.int .i64 a_o.Bits), (.int .i64 a_o.Lanes)]] : List (List AV)).getD i []) .exact) (AV.list 2 eA2I64 ((0 : Int), (0 : Int)) ([((64 : Int), (1 : Int)), (a_o.Bits, a_o.Lanes)] : List ((Int × Int))) .exact)), (Spec Try.prog 41 [(AV.list 2 eA2I64 ((0 : Int), (0 : Int)) ([((64 : Int), (1 : Int)), (a_o.Bits, a_o.Lanes)] : List ((Int × Int))) .none)] [] (AV.list 2 eA2I64 ((0 : Int), (0 : Int)) x8 .none) [])]) hn mix (no_hand hΓ) (by kernel_rfl) ⟨(Nat.le_of_ble_eq_true rfl), (Nat.le_of_ble_eq_true rfl), (av_lit rfl (fun i hi => map_get (e := eA2I64) (d := ((0 : Int), (0 : Int))) ([((64 : Int), (1 : Int)), (a_o.Bits, a_o.Lanes)] : List ((Int × Int))) i hi)), (ok_kind_row ([((64 : Int), (1 : Int)), (a_o.Bits, a_o.Lanes)] : List ((Int × Int))) x8 hx8), trivial⟩ ?_
              refine then_normal ?_
              refine awp_ret ?_
              refine block_ret ?_
              refine then_ret ?_
              obtain rfl := Option.some.inj h
              exact ⟨.inl rfl, [], by kernel_rfl⟩
            · replace h := cond_f hb h
              clear hb
              refine awp_seq ?_
              obtain ⟨x10, hx10, h⟩ := bind_some h
              refine awp_join (fun (b9 : Bool) (e : Exit) (st : St) => e = .normal ∧ Le Γ st (⟨[(1, (.ptr 1 0)), (3, (.ptr 3 0)), (4, (.ptr 4 0)), (5, (.ptr 5 0)), (6, (.ptr 6 0)), (18, (.int .i64 a_o.Kind)), (49, (.bool b9))], [(1, .row [(.int .i64 a_o.Kind), (.int .i64 a_o.Bits), (.int .i64 a_o.Lanes), (.int .i64 a_o.Dst), (AV.list 1 eI64 (0 : Int) a_o.Args .none), (.int .u64 a_o.Imm)]), (3, .row [(.int .i64 (1 : Int)), (.int .i64 (1 : Int))]), (4, .row [(.int .i64 (64 : Int)), (.int .i64 (1 : Int))]), (5, .row [(.int .i64 a_o.Bits), (.int .i64 a_o.Lanes)]), (6, .row [(.int .i64 a_o.Bits), (.int .i64 (1 : Int))])]⟩ : St)) hx10 ?_ ?_
              · clear h hx10
                intro y h
                refine awp_seq ?_
                refine awp_region (rs := []) (cs := []) (live := [1, 3, 4, 5, 6, 18, 49]) (names := [1, 3, 4, 5, 6]) (st' := (⟨[(1, (.ptr 1 0)), (3, (.ptr 3 0)), (4, (.ptr 4 0)), (5, (.ptr 5 0)), (6, (.ptr 6 0)), (18, (.int .i64 a_o.Kind)), (49, (.bool ((a_o.Kind : Int) == (18 : Int))))], [(1, .row [(.int .i64 a_o.Kind), (.int .i64 a_o.Bits), (.int .i64 a_o.Lanes), (.int .i64 a_o.Dst), (AV.list 1 eI64 (0 : Int) a_o.Args .none), (.int .u64 a_o.Imm)]), (3, .row [(.int .i64 (1 : Int)), (.int .i64 (1 : Int))]), (4, .row [(.int .i64 (64 : Int)), (.int .i64 (1 : Int))]), (5, .row [(.int .i64 a_o.Bits), (.int .i64 a_o.Lanes)]), (6, .row [(.int .i64 a_o.Bits), (.int .i64 (1 : Int))])]⟩ : St)) (obs := []) hn mix (no_hand hΓ) (by kernel_rfl) trivial ?_
                refine then_normal ?_
                refine awp_cond ((a_o.Kind : Int) == (18 : Int)) (by kernel_rfl) (fun hb => ?_) (fun hb => ?_)
                · replace h := cond_t hb h
                  clear hb
                  refine awp_skip ?_
                  obtain rfl := Option.some.inj h
                  exact ⟨rfl, Le.refl _ _⟩
                · replace h := cond_f hb h
                  clear hb
                  refine awp_region (rs := []) (cs := []) (live := [1, 3, 4, 5, 6, 18, 49]) (names := [1, 3, 4, 5, 6]) (st' := (⟨[(1, (.ptr 1 0)), (3, (.ptr 3 0)), (4, (.ptr 4 0)), (5, (.ptr 5 0)), (6, (.ptr 6 0)), (18, (.int .i64 a_o.Kind)), (49, (.bool ((a_o.Kind : Int) == (19 : Int))))], [(1, .row [(.int .i64 a_o.Kind), (.int .i64 a_o.Bits), (.int .i64 a_o.Lanes), (.int .i64 a_o.Dst), (AV.list 1 eI64 (0 : Int) a_o.Args .none), (.int .u64 a_o.Imm)]), (3, .row [(.int .i64 (1 : Int)), (.int .i64 (1 : Int))]), (4, .row [(.int .i64 (64 : Int)), (.int .i64 (1 : Int))]), (5, .row [(.int .i64 a_o.Bits), (.int .i64 a_o.Lanes)]), (6, .row [(.int .i64 a_o.Bits), (.int .i64 (1 : Int))])]⟩ : St)) (obs := []) hn mix (no_hand hΓ) (by kernel_rfl) trivial ?_
                  obtain rfl := Option.some.inj h
                  exact ⟨rfl, Le.refl _ _⟩
              · clear hx10
                rintro e st' ⟨rfl, hl11⟩
                refine then_normal ?_
                refine awp_le hl11 ?_
                refine awp_cond x10 (by kernel_rfl) (fun hb => ?_) (fun hb => ?_)
                · replace h := cond_t hb h
                  clear hb
                  refine awp_seq ?_
                  obtain ⟨x12, hx12, h⟩ := bind_some h
                  refine awp_region (rs := [⟨[], [], (AV.list 2 eA2I64 ((0 : Int), (0 : Int)) x12 .none), []⟩]) (cs := [(55, (AV.list 2 eA2I64 ((0 : Int), (0 : Int)) ([((1 : Int), (1 : Int)), ((64 : Int), (1 : Int)), (a_o.Bits, (1 : Int))] : List ((Int × Int))) .exact))]) (live := [2]) (names := []) (st' := (⟨[(2, (AV.list 2 eA2I64 ((0 : Int), (0 : Int)) x12 .none))], []⟩ : St)) (obs := [(0 + 2 ≤ List.length (α := AV) [(.int .i64 (1 : Int)), (.int .i64 (1 : Int))]), (0 + 2 ≤ List.length (α := AV) [(.int .i64 (64 : Int)), (.int .i64 (1 : Int))]), (0 + 2 ≤ List.length (α := AV) [(.int .i64 a_o.Bits), (.int .i64 (1 : Int))]), (AVle (.slice 2 3 (fun i => ([[(.int .i64 (1 : Int)), (.int .i64 (1 : Int))], [(.int .i64 (64 : Int)), (.int .i64 (1 : Int))], [(.int .i64 a_o.Bits), (.int .i64 (1 : Int))]] : List (List AV)).getD i []) .exact) (AV.list 2 eA2I64 ((0 : Int), (0 : Int)) ([((1 : Int), (1 : Int)), ((64 : Int), (1 : Int)), (a_o.Bits, (1 : Int))] : List ((Int × Int))) .exact)), (Spec Try.prog 41 [(AV.list 2 eA2I64 ((0 : Int), (0 : Int)) ([((1 : Int), (1 : Int)), ((64 : Int), (1 : Int)), (a_o.Bits, (1 : Int))] : List ((Int × Int))) .none)] [] (AV.list 2 eA2I64 ((0 : Int), (0 : Int)) x12 .none) [])]) hn mix (no_hand hΓ) (by kernel_rfl) ⟨(Nat.le_of_ble_eq_true rfl), (Nat.le_of_ble_eq_true rfl), (Nat.le_of_ble_eq_true rfl), (av_lit rfl (fun i hi => map_get (e := eA2I64) (d := ((0 : Int), (0 : Int))) ([((1 : Int), (1 : Int)), ((64 : Int), (1 : Int)), (a_o.Bits, (1 : Int))] : List ((Int × Int))) i hi)), (ok_kind_row ([((1 : Int), (1 : Int)), ((64 : Int), (1 : Int)), (a_o.Bits, (1 : Int))] : List ((Int × Int))) x12 hx12), trivial⟩ ?_
                  refine then_normal ?_
                  refine awp_ret ?_
                  refine block_ret ?_
                  refine then_ret ?_
                  obtain rfl := Option.some.inj h
                  exact ⟨.inl rfl, [], by kernel_rfl⟩
                · replace h := cond_f hb h
                  clear hb
                  refine awp_seq ?_
                  refine awp_region (rs := []) (cs := []) (live := [1, 3, 5, 6, 18, 57]) (names := [1, 3, 5, 6]) (st' := (⟨[(1, (.ptr 1 0)), (3, (.ptr 3 0)), (5, (.ptr 5 0)), (6, (.ptr 6 0)), (18, (.int .i64 a_o.Kind)), (57, (.bool ((a_o.Kind : Int) == (20 : Int))))], [(1, .row [(.int .i64 a_o.Kind), (.int .i64 a_o.Bits), (.int .i64 a_o.Lanes), (.int .i64 a_o.Dst), (AV.list 1 eI64 (0 : Int) a_o.Args .none), (.int .u64 a_o.Imm)]), (3, .row [(.int .i64 (1 : Int)), (.int .i64 (1 : Int))]), (5, .row [(.int .i64 a_o.Bits), (.int .i64 a_o.Lanes)]), (6, .row [(.int .i64 a_o.Bits), (.int .i64 (1 : Int))])]⟩ : St)) (obs := []) hn mix (no_hand hΓ) (by kernel_rfl) trivial ?_
                  refine then_normal ?_
                  refine awp_cond ((a_o.Kind : Int) == (20 : Int)) (by kernel_rfl) (fun hb => ?_) (fun hb => ?_)
                  · replace h := cond_t hb h
                    clear hb
                    refine awp_seq ?_
                    obtain ⟨x13, hx13, h⟩ := bind_some h
                    refine awp_region (rs := [⟨[], [], (AV.list 2 eA2I64 ((0 : Int), (0 : Int)) x13 .none), []⟩]) (cs := [(63, (AV.list 2 eA2I64 ((0 : Int), (0 : Int)) ([((1 : Int), (1 : Int)), (a_o.Bits, (1 : Int)), (a_o.Bits, (1 : Int)), (a_o.Bits, (1 : Int))] : List ((Int × Int))) .exact))]) (live := [2]) (names := []) (st' := (⟨[(2, (AV.list 2 eA2I64 ((0 : Int), (0 : Int)) x13 .none))], []⟩ : St)) (obs := [(0 + 2 ≤ List.length (α := AV) [(.int .i64 (1 : Int)), (.int .i64 (1 : Int))]), (0 + 2 ≤ List.length (α := AV) [(.int .i64 a_o.Bits), (.int .i64 (1 : Int))]), (0 + 2 ≤ List.length (α := AV) [(.int .i64 a_o.Bits), (.int .i64 (1 : Int))]), (0 + 2 ≤ List.length (α := AV) [(.int .i64 a_o.Bits), (.int .i64 (1 : Int))]), (AVle (.slice 2 4 (fun i => ([[(.int .i64 (1 : Int)), (.int .i64 (1 : Int))], [(.int .i64 a_o.Bits), (.int .i64 (1 : Int))], [(.int .i64 a_o.Bits), (.int .i64 (1 : Int))], [(.int .i64 a_o.Bits), (.int .i64 (1 : Int))]] : List (List AV)).getD i []) .exact) (AV.list 2 eA2I64 ((0 : Int), (0 : Int)) ([((1 : Int), (1 : Int)), (a_o.Bits, (1 : Int)), (a_o.Bits, (1 : Int)), (a_o.Bits, (1 : Int))] : List ((Int × Int))) .exact)), (Spec Try.prog 41 [(AV.list 2 eA2I64 ((0 : Int), (0 : Int)) ([((1 : Int), (1 : Int)), (a_o.Bits, (1 : Int)), (a_o.Bits, (1 : Int)), (a_o.Bits, (1 : Int))] : List ((Int × Int))) .none)] [] (AV.list 2 eA2I64 ((0 : Int), (0 : Int)) x13 .none) [])]) hn mix (no_hand hΓ) (by kernel_rfl) ⟨(Nat.le_of_ble_eq_true rfl), (Nat.le_of_ble_eq_true rfl), (Nat.le_of_ble_eq_true rfl), (Nat.le_of_ble_eq_true rfl), (av_lit rfl (fun i hi => map_get (e := eA2I64) (d := ((0 : Int), (0 : Int))) ([((1 : Int), (1 : Int)), (a_o.Bits, (1 : Int)), (a_o.Bits, (1 : Int)), (a_o.Bits, (1 : Int))] : List ((Int × Int))) i hi)), (ok_kind_row ([((1 : Int), (1 : Int)), (a_o.Bits, (1 : Int)), (a_o.Bits, (1 : Int)), (a_o.Bits, (1 : Int))] : List ((Int × Int))) x13 hx13), trivial⟩ ?_
                    refine then_normal ?_
                    refine awp_ret ?_
                    refine block_ret ?_
                    refine then_ret ?_
                    obtain rfl := Option.some.inj h
                    exact ⟨.inl rfl, [], by kernel_rfl⟩
                  · replace h := cond_f hb h
                    clear hb
                    refine awp_seq ?_
                    refine awp_region (rs := []) (cs := []) (live := [1, 5, 6, 18, 65]) (names := [1, 5, 6]) (st' := (⟨[(1, (.ptr 1 0)), (5, (.ptr 5 0)), (6, (.ptr 6 0)), (18, (.int .i64 a_o.Kind)), (65, (.bool ((a_o.Kind : Int) == (21 : Int))))], [(1, .row [(.int .i64 a_o.Kind), (.int .i64 a_o.Bits), (.int .i64 a_o.Lanes), (.int .i64 a_o.Dst), (AV.list 1 eI64 (0 : Int) a_o.Args .none), (.int .u64 a_o.Imm)]), (5, .row [(.int .i64 a_o.Bits), (.int .i64 a_o.Lanes)]), (6, .row [(.int .i64 a_o.Bits), (.int .i64 (1 : Int))])]⟩ : St)) (obs := []) hn mix (no_hand hΓ) (by kernel_rfl) trivial ?_
                    refine then_normal ?_
                    refine awp_cond ((a_o.Kind : Int) == (21 : Int)) (by kernel_rfl) (fun hb => ?_) (fun hb => ?_)
                    · replace h := cond_t hb h
                      clear hb
                      refine awp_seq ?_
                      obtain ⟨x14, hx14, h⟩ := bind_some h
                      obtain ⟨x15, hx15, h⟩ := bind_some h
                      refine awp_region (rs := [⟨[], [(20000, 71)], (AV.list 2 eA2I64 ((0 : Int), (0 : Int)) x14 (.own 20000)), [(20000, .tok 2 36 x14.length)]⟩, ⟨[], [], (AV.list 2 eA2I64 ((0 : Int), (0 : Int)) x15 .none), []⟩]) (cs := [(68, (AV.list 2 eA2I64 ((0 : Int), (0 : Int)) ([(a_o.Bits, (1 : Int))] : List ((Int × Int))) .exact))]) (live := [2]) (names := []) (st' := (⟨[(2, (AV.list 2 eA2I64 ((0 : Int), (0 : Int)) x15 .none))], []⟩ : St)) (obs := [(0 + 2 ≤ List.length (α := AV) [(.int .i64 a_o.Bits), (.int .i64 (1 : Int))]), (AVle (.slice 2 1 (fun i => ([[(.int .i64 a_o.Bits), (.int .i64 (1 : Int))]] : List (List AV)).getD i []) .exact) (AV.list 2 eA2I64 ((0 : Int), (0 : Int)) ([(a_o.Bits, (1 : Int))] : List ((Int × Int))) .exact)), (2 < List.length (α := AV) [(.int .i64 a_o.Kind), (.int .i64 a_o.Bits), (.int .i64 a_o.Lanes), (.int .i64 a_o.Dst), (AV.list 1 eI64 (0 : Int) a_o.Args .none), (.int .u64 a_o.Imm)]), (Spec Try.prog 42 [(AV.list 2 eA2I64 ((0 : Int), (0 : Int)) ([(a_o.Bits, (1 : Int))] : List ((Int × Int))) .none), (.int .i64 a_o.Lanes)] [] (AV.list 2 eA2I64 ((0 : Int), (0 : Int)) x14 (.own 20000)) [(20000, .tok 2 36 x14.length)]), (Spec Try.prog 41 [(AV.list 2 eA2I64 ((0 : Int), (0 : Int)) x14 .none)] [] (AV.list 2 eA2I64 ((0 : Int), (0 : Int)) x15 .none) [])]) hn mix (no_hand hΓ) (by kernel_rfl) ⟨(Nat.le_of_ble_eq_true rfl), (av_lit rfl (fun i hi => map_get (e := eA2I64) (d := ((0 : Int), (0 : Int))) ([(a_o.Bits, (1 : Int))] : List ((Int × Int))) i hi)), (Nat.le_of_ble_eq_true rfl), (ok_slices_Repeat_2_int_2_int ([(a_o.Bits, (1 : Int))] : List ((Int × Int))) a_o.Lanes x14 hx14), (ok_kind_row x14 x15 hx15), trivial⟩ ?_
                      refine then_normal ?_
                      refine awp_ret ?_
                      refine block_ret ?_
                      refine then_ret ?_
                      obtain rfl := Option.some.inj h
                      exact ⟨.inl rfl, [], by kernel_rfl⟩
                    · replace h := cond_f hb h
                      clear hb
                      refine awp_seq ?_
                      refine awp_region (rs := []) (cs := []) (live := [5, 73]) (names := [5]) (st' := (⟨[(5, (.ptr 5 0)), (73, (.bool ((a_o.Kind : Int) == (22 : Int))))], [(5, .row [(.int .i64 a_o.Bits), (.int .i64 a_o.Lanes)])]⟩ : St)) (obs := []) hn mix (no_hand hΓ) (by kernel_rfl) trivial ?_
                      refine then_normal ?_
                      refine awp_cond ((a_o.Kind : Int) == (22 : Int)) (by kernel_rfl) (fun hb => ?_) (fun hb => ?_)
                      · replace h := cond_t hb h
                        clear hb
                        refine awp_seq ?_
                        obtain ⟨x16, hx16, h⟩ := bind_some h
                        refine awp_region (rs := [⟨[], [], (AV.list 2 eA2I64 ((0 : Int), (0 : Int)) x16 .none), []⟩]) (cs := [(76, (AV.list 2 eA2I64 ((0 : Int), (0 : Int)) ([(a_o.Bits, a_o.Lanes)] : List ((Int × Int))) .exact))]) (live := [2]) (names := []) (st' := (⟨[(2, (AV.list 2 eA2I64 ((0 : Int), (0 : Int)) x16 .none))], []⟩ : St)) (obs := [(0 + 2 ≤ List.length (α := AV) [(.int .i64 a_o.Bits), (.int .i64 a_o.Lanes)]), (AVle (.slice 2 1 (fun i => ([[(.int .i64 a_o.Bits), (.int .i64 a_o.Lanes)]] : List (List AV)).getD i []) .exact) (AV.list 2 eA2I64 ((0 : Int), (0 : Int)) ([(a_o.Bits, a_o.Lanes)] : List ((Int × Int))) .exact)), (Spec Try.prog 41 [(AV.list 2 eA2I64 ((0 : Int), (0 : Int)) ([(a_o.Bits, a_o.Lanes)] : List ((Int × Int))) .none)] [] (AV.list 2 eA2I64 ((0 : Int), (0 : Int)) x16 .none) [])]) hn mix (no_hand hΓ) (by kernel_rfl) ⟨(Nat.le_of_ble_eq_true rfl), (av_lit rfl (fun i hi => map_get (e := eA2I64) (d := ((0 : Int), (0 : Int))) ([(a_o.Bits, a_o.Lanes)] : List ((Int × Int))) i hi)), (ok_kind_row ([(a_o.Bits, a_o.Lanes)] : List ((Int × Int))) x16 hx16), trivial⟩ ?_
                        refine then_normal ?_
                        refine awp_ret ?_
                        refine block_ret ?_
                        refine then_ret ?_
                        obtain rfl := Option.some.inj h
                        exact ⟨.inl rfl, [], by kernel_rfl⟩
                      · replace h := cond_f hb h
                        clear hb
                        refine awp_skip ?_
                        refine block_normal ?_
                        refine then_normal ?_
                        refine awp_seq ?_
                        obtain ⟨x17, hx17, h⟩ := bind_some h
                        refine awp_region (rs := [⟨[], [], (AV.list 2 eA2I64 ((0 : Int), (0 : Int)) x17 .none), []⟩]) (cs := [(80, (AV.list 2 eA2I64 ((0 : Int), (0 : Int)) ([(a_o.Bits, a_o.Lanes), (a_o.Bits, a_o.Lanes)] : List ((Int × Int))) .exact))]) (live := [2]) (names := []) (st' := (⟨[(2, (AV.list 2 eA2I64 ((0 : Int), (0 : Int)) x17 .none))], []⟩ : St)) (obs := [(0 + 2 ≤ List.length (α := AV) [(.int .i64 a_o.Bits), (.int .i64 a_o.Lanes)]), (0 + 2 ≤ List.length (α := AV) [(.int .i64 a_o.Bits), (.int .i64 a_o.Lanes)]), (AVle (.slice 2 2 (fun i => ([[(.int .i64 a_o.Bits), (.int .i64 a_o.Lanes)], [(.int .i64 a_o.Bits), (.int .i64 a_o.Lanes)]] : List (List AV)).getD i []) .exact) (AV.list 2 eA2I64 ((0 : Int), (0 : Int)) ([(a_o.Bits, a_o.Lanes), (a_o.Bits, a_o.Lanes)] : List ((Int × Int))) .exact)), (Spec Try.prog 41 [(AV.list 2 eA2I64 ((0 : Int), (0 : Int)) ([(a_o.Bits, a_o.Lanes), (a_o.Bits, a_o.Lanes)] : List ((Int × Int))) .none)] [] (AV.list 2 eA2I64 ((0 : Int), (0 : Int)) x17 .none) [])]) hn mix (no_hand hΓ) (by kernel_rfl) ⟨(Nat.le_of_ble_eq_true rfl), (Nat.le_of_ble_eq_true rfl), (av_lit rfl (fun i hi => map_get (e := eA2I64) (d := ((0 : Int), (0 : Int))) ([(a_o.Bits, a_o.Lanes), (a_o.Bits, a_o.Lanes)] : List ((Int × Int))) i hi)), (ok_kind_row ([(a_o.Bits, a_o.Lanes), (a_o.Bits, a_o.Lanes)] : List ((Int × Int))) x17 hx17), trivial⟩ ?_
                        refine then_normal ?_
                        refine awp_ret ?_
                        obtain rfl := Option.some.inj h
                        exact ⟨.inl rfl, [], by kernel_rfl⟩

noncomputable def m_kind_isValue (a_v : Int) : Option Bool :=
  (some (bif (decide (((1 : Int) : Int) ≤ a_v)) then (decide ((a_v : Int) ≤ (1023 : Int))) else false))
theorem ok_kind_isValue (a_v : Int) (r : Bool) (h : m_kind_isValue a_v = some r) : Spec Try.prog 39 [(.int .i64 a_v)] [] (.bool r) [] := by
  refine spec_of_awp (fn := Try.f39) Try.func39 rfl rfl (by kernel_rfl) (fun Γ hn hΓ => ?_)
  have hn : Γ.n = 9 := hn
  unfold m_kind_isValue at h
  refine awp_seq ?_
  refine awp_region (rs := []) (cs := []) (live := [0]) (names := []) (st' := (⟨[(0, (.int .i64 a_v))], []⟩ : St)) (obs := []) hn mix (no_hand hΓ) (by kernel_rfl) trivial ?_
  refine then_normal ?_
  refine awp_seq ?_
  refine awp_region (rs := []) (cs := []) (live := [2]) (names := []) (st' := (⟨[(2, (.bool (bif (decide (((1 : Int) : Int) ≤ a_v)) then (decide ((a_v : Int) ≤ (1023 : Int))) else false)))], []⟩ : St)) (obs := [(((decide (((1 : Int) : Int) ≤ a_v)) == true) = true → ((decide (((1 : Int) : Int) ≤ a_v)) == true) = true), ((decide (((1 : Int) : Int) ≤ a_v)) = true → ((decide (((1 : Int) : Int) ≤ a_v)) == true) = true)]) hn mix (no_hand hΓ) (by kernel_rfl) ⟨(fun hg => hg), (fun hp => by rw [hp]; rfl), trivial⟩ ?_
  refine then_normal ?_
  refine awp_ret ?_
  obtain rfl := Option.some.inj h
  exact ⟨.inl rfl, [], by kernel_rfl⟩

noncomputable def m_kind_argsFit_L1 (a_o : TOp) : Int → Option (LR Int (Unit ⊕ Bool)) :=
  fun (i2 : Int) => (bif (decide ((i2 : Int) < (a_o.Args.length : Int))) then (chk (InB i2 a_o.Args.length) ((m_kind_isValue (a_o.Args.getD (i2).toNat (0 : Int))).bind fun x4 => (bif (!x4) then (some (.done (.inr false))) else (some (.next (w64 (i2 + (1 : Int)))))))) else (some (.done (.inl ()))))
noncomputable def m_kind_argsFit (a_o : TOp) : Option Bool :=
  ((m_kind_takes a_o).bind fun x1 => (bif (((a_o.Args.length : Int) : Int) != (x1.length : Int)) then (some false) else ((loopO (S := Int) (X := (Unit ⊕ Bool)) (m_kind_argsFit_L1 a_o) (0 : Int)).bind (fun x5 => (match x5 with | (.inl _) => (some true) | (.inr r7) => (some r7))))))
theorem ok_kind_argsFit (a_o : TOp) (r : Bool) (h : m_kind_argsFit a_o = some r) : Spec Try.prog 27 [(.agg (eTOp a_o))] [] (.bool r) [] := by
  refine spec_of_awp (fn := Try.f27) Try.func27 rfl rfl (by kernel_rfl) (fun Γ hn hΓ => ?_)
  have hn : Γ.n = 23 := hn
  unfold m_kind_argsFit at h
  refine awp_seq ?_
  refine awp_region (rs := []) (cs := []) (live := [1]) (names := [1]) (st' := (⟨[(1, (.ptr 1 0))], [(1, .row [(.int .i64 a_o.Kind), (.int .i64 a_o.Bits), (.int .i64 a_o.Lanes), (.int .i64 a_o.Dst), (AV.list 1 eI64 (0 : Int) a_o.Args .none), (.int .u64 a_o.Imm)])]⟩ : St)) (obs := []) hn mix (no_hand hΓ) (by kernel_rfl) trivial ?_
  refine then_normal ?_
  refine awp_seq ?_
  refine awp_seq ?_
  obtain ⟨x1, hx1, h⟩ := bind_some h
  refine awp_region (rs := [⟨[], [], (AV.list 2 eA2I64 ((0 : Int), (0 : Int)) x1 .none), []⟩]) (cs := []) (live := [1, 11]) (names := [1]) (st' := (⟨[(1, (.ptr 1 0)), (11, (.bool (((a_o.Args.length : Int) : Int) != (x1.length : Int))))], [(1, .row [(.int .i64 a_o.Kind), (.int .i64 a_o.Bits), (.int .i64 a_o.Lanes), (.int .i64 a_o.Dst), (AV.list 1 eI64 (0 : Int) a_o.Args .none), (.int .u64 a_o.Imm)])]⟩ : St)) (obs := [(4 < List.length (α := AV) [(.int .i64 a_o.Kind), (.int .i64 a_o.Bits), (.int .i64 a_o.Lanes), (.int .i64 a_o.Dst), (AV.list 1 eI64 (0 : Int) a_o.Args .none), (.int .u64 a_o.Imm)]), (0 + 6 ≤ List.length (α := AV) [(.int .i64 a_o.Kind), (.int .i64 a_o.Bits), (.int .i64 a_o.Lanes), (.int .i64 a_o.Dst), (AV.list 1 eI64 (0 : Int) a_o.Args .none), (.int .u64 a_o.Imm)]), (Spec Try.prog 32 [(.agg (eTOp a_o))] [] (AV.list 2 eA2I64 ((0 : Int), (0 : Int)) x1 .none) [])]) hn mix (no_hand hΓ) (by kernel_rfl) ⟨(Nat.le_of_ble_eq_true rfl), (Nat.le_of_ble_eq_true rfl), (ok_kind_takes a_o x1 hx1), trivial⟩ ?_
  refine then_normal ?_
  refine awp_cond (((a_o.Args.length : Int) : Int) != (x1.length : Int)) (by kernel_rfl) (fun hb => ?_) (fun hb => ?_)
  · replace h := cond_t hb h
    clear hb
    refine awp_seq ?_
    refine awp_region (rs := []) (cs := []) (live := [2]) (names := []) (st' := (⟨[(2, (.bool false))], []⟩ : St)) (obs := []) hn mix (no_hand hΓ) (by kernel_rfl) trivial ?_
    refine then_normal ?_
    refine awp_ret ?_
    refine then_ret ?_
    obtain rfl := Option.some.inj h
    exact ⟨.inl rfl, [], by kernel_rfl⟩
  · replace h := cond_f hb h
    clear hb
    refine awp_skip ?_
    refine then_normal ?_
    refine awp_seq ?_
    refine awp_seq ?_
    refine awp_region (rs := []) (cs := []) (live := [13, 14, 15]) (names := []) (st' := (⟨[(13, (AV.list 1 eI64 (0 : Int) a_o.Args .none)), (14, (.int .i64 (a_o.Args.length : Int))), (15, (.int .i64 (0 : Int)))], []⟩ : St)) (obs := [(4 < List.length (α := AV) [(.int .i64 a_o.Kind), (.int .i64 a_o.Bits), (.int .i64 a_o.Lanes), (.int .i64 a_o.Dst), (AV.list 1 eI64 (0 : Int) a_o.Args .none), (.int .u64 a_o.Imm)])]) hn mix (no_hand hΓ) (by kernel_rfl) ⟨(Nat.le_of_ble_eq_true rfl), trivial⟩ ?_
    refine then_normal ?_
    refine awp_block ?_
    refine awp_le (st' := (fun (i2 : Int) => (⟨[(13, (AV.list 1 eI64 (0 : Int) a_o.Args .none)), (14, (.int .i64 (a_o.Args.length : Int))), (15, (.int .i64 i2))], []⟩ : St)) (0 : Int)) (Le.refl _ _) ?_
    obtain ⟨x5, hx5, h⟩ := bind_some h
    refine awp_loop (fun (i2 : Int) => (⟨[(13, (AV.list 1 eI64 (0 : Int) a_o.Args .none)), (14, (.int .i64 (a_o.Args.length : Int))), (15, (.int .i64 i2))], []⟩ : St)) _ (fun (x_ : (Unit ⊕ Bool)) (e : Exit) (st : St) => match x_ with | (.inl _) => e = (.exit 0) ∧ Le Γ st (⟨[], []⟩ : St) | (.inr r_) => e = .ret ∧ retK Try.prog Try.f27.results.toList [] (.bool r_) [] e st) ?_ hx5 ?_
    · intro i2 y h
      unfold m_kind_argsFit_L1 at h
      refine awp_seq ?_
      refine awp_region (rs := []) (cs := []) (live := [13, 14, 15, 16]) (names := []) (st' := (⟨[(13, (AV.list 1 eI64 (0 : Int) a_o.Args .none)), (14, (.int .i64 (a_o.Args.length : Int))), (15, (.int .i64 i2)), (16, (.bool (decide ((i2 : Int) < (a_o.Args.length : Int)))))], []⟩ : St)) (obs := []) hn mix (no_hand hΓ) (by kernel_rfl) trivial ?_
      refine then_normal ?_
      refine awp_seq ?_
      refine awp_cond (decide ((i2 : Int) < (a_o.Args.length : Int))) (by kernel_rfl) (fun hb => ?_) (fun hb => ?_)
      · replace h := cond_t hb h
        clear hb
        refine awp_skip ?_
        refine then_normal ?_
        refine awp_seq ?_
        refine awp_block ?_
        refine awp_seq ?_
        obtain ⟨hc3, h⟩ := chk_some h
        refine awp_region (rs := []) (cs := []) (live := [4, 13, 14, 15]) (names := []) (st' := (⟨[(4, (.int .i64 (a_o.Args.getD (i2).toNat (0 : Int)))), (13, (AV.list 1 eI64 (0 : Int) a_o.Args .none)), (14, (.int .i64 (a_o.Args.length : Int))), (15, (.int .i64 i2))], []⟩ : St)) (obs := [(InB i2 a_o.Args.length)]) hn mix (no_hand hΓ) (by kernel_rfl) ⟨hc3, trivial⟩ ?_
        refine then_normal ?_
        refine awp_seq ?_
        obtain ⟨x4, hx4, h⟩ := bind_some h
        refine awp_region (rs := [⟨[], [], (.bool x4), []⟩]) (cs := []) (live := [13, 14, 15, 21]) (names := []) (st' := (⟨[(13, (AV.list 1 eI64 (0 : Int) a_o.Args .none)), (14, (.int .i64 (a_o.Args.length : Int))), (15, (.int .i64 i2)), (21, (.bool (!x4)))], []⟩ : St)) (obs := [(Spec Try.prog 39 [(.int .i64 (a_o.Args.getD (i2).toNat (0 : Int)))] [] (.bool x4) [])]) hn mix (no_hand hΓ) (by kernel_rfl) ⟨(ok_kind_isValue (a_o.Args.getD (i2).toNat (0 : Int)) x4 hx4), trivial⟩ ?_
        refine then_normal ?_
        refine awp_cond (!x4) (by kernel_rfl) (fun hb => ?_) (fun hb => ?_)
        · replace h := cond_t hb h
          clear hb
          refine awp_seq ?_
          refine awp_region (rs := []) (cs := []) (live := [2]) (names := []) (st' := (⟨[(2, (.bool false))], []⟩ : St)) (obs := []) hn mix (no_hand hΓ) (by kernel_rfl) trivial ?_
          refine then_normal ?_
          refine awp_ret ?_
          refine block_ret ?_
          refine then_ret ?_
          obtain rfl := Option.some.inj h
          exact ⟨(by intro hh; cases hh), rfl, ⟨.inl rfl, [], by kernel_rfl⟩⟩
        · replace h := cond_f hb h
          clear hb
          refine awp_skip ?_
          refine block_normal ?_
          refine then_normal ?_
          refine awp_region (rs := []) (cs := []) (live := [13, 14, 15]) (names := []) (st' := (⟨[(13, (AV.list 1 eI64 (0 : Int) a_o.Args .none)), (14, (.int .i64 (a_o.Args.length : Int))), (15, (.int .i64 (w64 (i2 + (1 : Int)))))], []⟩ : St)) (obs := []) hn mix (no_hand hΓ) (by kernel_rfl) trivial ?_
          obtain rfl := Option.some.inj h
          exact ⟨rfl, Le.refl _ _⟩
      · replace h := cond_f hb h
        clear hb
        refine awp_exit ?_
        refine then_exit ?_
        obtain rfl := Option.some.inj h
        exact ⟨(by intro hh; cases hh), rfl, le_restrict_eq [] [] (by kernel_rfl) (no_hand hΓ)⟩
    · clear hx5
      rcases x5 with _ | r7
      · rintro e st' ⟨rfl, hl6⟩
        refine block_here ?_
        refine then_normal ?_
        refine awp_le hl6 ?_
        refine awp_seq ?_
        refine awp_region (rs := []) (cs := []) (live := [2]) (names := []) (st' := (⟨[(2, (.bool true))], []⟩ : St)) (obs := []) hn mix (no_hand hΓ) (by kernel_rfl) trivial ?_
        refine then_normal ?_
        refine awp_ret ?_
        obtain rfl := Option.some.inj h
        exact ⟨.inl rfl, [], by kernel_rfl⟩
      · rintro e st' ⟨rfl, hk⟩
        refine block_ret ?_
        refine then_ret ?_
        obtain rfl := Option.some.inj h
        exact hk

noncomputable def m_kind_gives (a_o : TOp) : Option (Int × Int) :=
  (Option.bind (α := Bool) (bif ((a_o.Kind : Int) == (17 : Int)) then (some (((a_o.Kind : Int) == (17 : Int)))) else (some (((a_o.Kind : Int) == (19 : Int))))) (fun x2 => ((bif x2 then (some ((0 : Int), (0 : Int))) else (Option.bind (α := Bool) (bif ((a_o.Kind : Int) == (10 : Int)) then (some (((a_o.Kind : Int) == (10 : Int)))) else (bif ((a_o.Kind : Int) == (11 : Int)) then (some (((a_o.Kind : Int) == (11 : Int)))) else (some (((a_o.Kind : Int) == (12 : Int)))))) (fun x5 => ((bif x5 then (some ((1 : Int), (1 : Int))) else (bif ((a_o.Kind : Int) == (22 : Int)) then (some (a_o.Bits, (1 : Int))) else (some (a_o.Bits, a_o.Lanes)))))))))))
theorem ok_kind_gives (a_o : TOp) (r : (Int × Int)) (h : m_kind_gives a_o = some r) : Spec Try.prog 23 [(.agg (eTOp a_o))] [] (.tuple [(.int .i64 r.1), (.int .i64 r.2)]) [] := by
  refine spec_of_awp (fn := Try.f23) Try.func23 rfl rfl (by kernel_rfl) (fun Γ hn hΓ => ?_)
  have hn : Γ.n = 21 := hn
  unfold m_kind_gives at h
  refine awp_seq ?_
  refine awp_region (rs := []) (cs := []) (live := [1]) (names := [1]) (st' := (⟨[(1, (.ptr 1 0))], [(1, .row [(.int .i64 a_o.Kind), (.int .i64 a_o.Bits), (.int .i64 a_o.Lanes), (.int .i64 a_o.Dst), (AV.list 1 eI64 (0 : Int) a_o.Args .none), (.int .u64 a_o.Imm)])]⟩ : St)) (obs := []) hn mix (no_hand hΓ) (by kernel_rfl) trivial ?_
  refine then_normal ?_
  refine awp_seq ?_
  refine awp_seq ?_
  refine awp_region (rs := []) (cs := []) (live := [1, 5]) (names := [1]) (st' := (⟨[(1, (.ptr 1 0)), (5, (.int .i64 a_o.Kind))], [(1, .row [(.int .i64 a_o.Kind), (.int .i64 a_o.Bits), (.int .i64 a_o.Lanes), (.int .i64 a_o.Dst), (AV.list 1 eI64 (0 : Int) a_o.Args .none), (.int .u64 a_o.Imm)])]⟩ : St)) (obs := [(0 < List.length (α := AV) [(.int .i64 a_o.Kind), (.int .i64 a_o.Bits), (.int .i64 a_o.Lanes), (.int .i64 a_o.Dst), (AV.list 1 eI64 (0 : Int) a_o.Args .none), (.int .u64 a_o.Imm)])]) hn mix (no_hand hΓ) (by kernel_rfl) ⟨(Nat.le_of_ble_eq_true rfl), trivial⟩ ?_
  refine then_normal ?_
  refine awp_block ?_
  refine awp_seq ?_
  obtain ⟨x2, hx2, h⟩ := bind_some h
  refine awp_join (fun (b1 : Bool) (e : Exit) (st : St) => e = .normal ∧ Le Γ st (⟨[(1, (.ptr 1 0)), (5, (.int .i64 a_o.Kind)), (6, (.bool b1))], [(1, .row [(.int .i64 a_o.Kind), (.int .i64 a_o.Bits), (.int .i64 a_o.Lanes), (.int .i64 a_o.Dst), (AV.list 1 eI64 (0 : Int) a_o.Args .none), (.int .u64 a_o.Imm)])]⟩ : St)) hx2 ?_ ?_
  · clear h hx2
    intro y h
    refine awp_seq ?_
    refine awp_region (rs := []) (cs := []) (live := [1, 5, 6]) (names := [1]) (st' := (⟨[(1, (.ptr 1 0)), (5, (.int .i64 a_o.Kind)), (6, (.bool ((a_o.Kind : Int) == (17 : Int))))], [(1, .row [(.int .i64 a_o.Kind), (.int .i64 a_o.Bits), (.int .i64 a_o.Lanes), (.int .i64 a_o.Dst), (AV.list 1 eI64 (0 : Int) a_o.Args .none), (.int .u64 a_o.Imm)])]⟩ : St)) (obs := []) hn mix (no_hand hΓ) (by kernel_rfl) trivial ?_
    refine then_normal ?_
    refine awp_cond ((a_o.Kind : Int) == (17 : Int)) (by kernel_rfl) (fun hb => ?_) (fun hb => ?_)
    · replace h := cond_t hb h
      clear hb
      refine awp_skip ?_
      obtain rfl := Option.some.inj h
      exact ⟨rfl, Le.refl _ _⟩
    · replace h := cond_f hb h
      clear hb
      refine awp_region (rs := []) (cs := []) (live := [1, 5, 6]) (names := [1]) (st' := (⟨[(1, (.ptr 1 0)), (5, (.int .i64 a_o.Kind)), (6, (.bool ((a_o.Kind : Int) == (19 : Int))))], [(1, .row [(.int .i64 a_o.Kind), (.int .i64 a_o.Bits), (.int .i64 a_o.Lanes), (.int .i64 a_o.Dst), (AV.list 1 eI64 (0 : Int) a_o.Args .none), (.int .u64 a_o.Imm)])]⟩ : St)) (obs := []) hn mix (no_hand hΓ) (by kernel_rfl) trivial ?_
      obtain rfl := Option.some.inj h
      exact ⟨rfl, Le.refl _ _⟩
  · clear hx2
    rintro e st' ⟨rfl, hl3⟩
    refine then_normal ?_
    refine awp_le hl3 ?_
    refine awp_cond x2 (by kernel_rfl) (fun hb => ?_) (fun hb => ?_)
    · replace h := cond_t hb h
      clear hb
      refine awp_seq ?_
      refine awp_region (rs := []) (cs := []) (live := [2, 3]) (names := []) (st' := (⟨[(2, (.int .i64 (0 : Int))), (3, (.int .i64 (0 : Int)))], []⟩ : St)) (obs := []) hn mix (no_hand hΓ) (by kernel_rfl) trivial ?_
      refine then_normal ?_
      refine awp_ret ?_
      refine block_ret ?_
      refine then_ret ?_
      obtain rfl := Option.some.inj h
      exact ⟨.inl rfl, [], by kernel_rfl⟩
    · replace h := cond_f hb h
      clear hb
      refine awp_seq ?_
      obtain ⟨x5, hx5, h⟩ := bind_some h
      refine awp_join (fun (b4 : Bool) (e : Exit) (st : St) => e = .normal ∧ Le Γ st (⟨[(1, (.ptr 1 0)), (5, (.int .i64 a_o.Kind)), (9, (.bool b4))], [(1, .row [(.int .i64 a_o.Kind), (.int .i64 a_o.Bits), (.int .i64 a_o.Lanes), (.int .i64 a_o.Dst), (AV.list 1 eI64 (0 : Int) a_o.Args .none), (.int .u64 a_o.Imm)])]⟩ : St)) hx5 ?_ ?_
      · clear h hx5
        intro y h
        refine awp_seq ?_
        refine awp_region (rs := []) (cs := []) (live := [1, 5, 9]) (names := [1]) (st' := (⟨[(1, (.ptr 1 0)), (5, (.int .i64 a_o.Kind)), (9, (.bool ((a_o.Kind : Int) == (10 : Int))))], [(1, .row [(.int .i64 a_o.Kind), (.int .i64 a_o.Bits), (.int .i64 a_o.Lanes), (.int .i64 a_o.Dst), (AV.list 1 eI64 (0 : Int) a_o.Args .none), (.int .u64 a_o.Imm)])]⟩ : St)) (obs := []) hn mix (no_hand hΓ) (by kernel_rfl) trivial ?_
        refine then_normal ?_
        refine awp_cond ((a_o.Kind : Int) == (10 : Int)) (by kernel_rfl) (fun hb => ?_) (fun hb => ?_)
        · replace h := cond_t hb h
          clear hb
          refine awp_skip ?_
          obtain rfl := Option.some.inj h
          exact ⟨rfl, Le.refl _ _⟩
        · replace h := cond_f hb h
          clear hb
          refine awp_seq ?_
          refine awp_region (rs := []) (cs := []) (live := [1, 5, 9]) (names := [1]) (st' := (⟨[(1, (.ptr 1 0)), (5, (.int .i64 a_o.Kind)), (9, (.bool ((a_o.Kind : Int) == (11 : Int))))], [(1, .row [(.int .i64 a_o.Kind), (.int .i64 a_o.Bits), (.int .i64 a_o.Lanes), (.int .i64 a_o.Dst), (AV.list 1 eI64 (0 : Int) a_o.Args .none), (.int .u64 a_o.Imm)])]⟩ : St)) (obs := []) hn mix (no_hand hΓ) (by kernel_rfl) trivial ?_
          refine then_normal ?_
          refine awp_cond ((a_o.Kind : Int) == (11 : Int)) (by kernel_rfl) (fun hb => ?_) (fun hb => ?_)
          · replace h := cond_t hb h
            clear hb
            refine awp_skip ?_
            obtain rfl := Option.some.inj h
            exact ⟨rfl, Le.refl _ _⟩
          · replace h := cond_f hb h
            clear hb
            refine awp_region (rs := []) (cs := []) (live := [1, 5, 9]) (names := [1]) (st' := (⟨[(1, (.ptr 1 0)), (5, (.int .i64 a_o.Kind)), (9, (.bool ((a_o.Kind : Int) == (12 : Int))))], [(1, .row [(.int .i64 a_o.Kind), (.int .i64 a_o.Bits), (.int .i64 a_o.Lanes), (.int .i64 a_o.Dst), (AV.list 1 eI64 (0 : Int) a_o.Args .none), (.int .u64 a_o.Imm)])]⟩ : St)) (obs := []) hn mix (no_hand hΓ) (by kernel_rfl) trivial ?_
            obtain rfl := Option.some.inj h
            exact ⟨rfl, Le.refl _ _⟩
      · clear hx5
        rintro e st' ⟨rfl, hl6⟩
        refine then_normal ?_
        refine awp_le hl6 ?_
        refine awp_cond x5 (by kernel_rfl) (fun hb => ?_) (fun hb => ?_)
        · replace h := cond_t hb h
          clear hb
          refine awp_seq ?_
          refine awp_region (rs := []) (cs := []) (live := [2, 3]) (names := []) (st' := (⟨[(2, (.int .i64 (1 : Int))), (3, (.int .i64 (1 : Int)))], []⟩ : St)) (obs := []) hn mix (no_hand hΓ) (by kernel_rfl) trivial ?_
          refine then_normal ?_
          refine awp_ret ?_
          refine block_ret ?_
          refine then_ret ?_
          obtain rfl := Option.some.inj h
          exact ⟨.inl rfl, [], by kernel_rfl⟩
        · replace h := cond_f hb h
          clear hb
          refine awp_seq ?_
          refine awp_region (rs := []) (cs := []) (live := [1, 13]) (names := [1]) (st' := (⟨[(1, (.ptr 1 0)), (13, (.bool ((a_o.Kind : Int) == (22 : Int))))], [(1, .row [(.int .i64 a_o.Kind), (.int .i64 a_o.Bits), (.int .i64 a_o.Lanes), (.int .i64 a_o.Dst), (AV.list 1 eI64 (0 : Int) a_o.Args .none), (.int .u64 a_o.Imm)])]⟩ : St)) (obs := []) hn mix (no_hand hΓ) (by kernel_rfl) trivial ?_
          refine then_normal ?_
          refine awp_cond ((a_o.Kind : Int) == (22 : Int)) (by kernel_rfl) (fun hb => ?_) (fun hb => ?_)
          · replace h := cond_t hb h
            clear hb
            refine awp_seq ?_
            refine awp_region (rs := []) (cs := []) (live := [2, 3]) (names := []) (st' := (⟨[(2, (.int .i64 a_o.Bits)), (3, (.int .i64 (1 : Int)))], []⟩ : St)) (obs := [(1 < List.length (α := AV) [(.int .i64 a_o.Kind), (.int .i64 a_o.Bits), (.int .i64 a_o.Lanes), (.int .i64 a_o.Dst), (AV.list 1 eI64 (0 : Int) a_o.Args .none), (.int .u64 a_o.Imm)])]) hn mix (no_hand hΓ) (by kernel_rfl) ⟨(Nat.le_of_ble_eq_true rfl), trivial⟩ ?_
            refine then_normal ?_
            refine awp_ret ?_
            refine block_ret ?_
            refine then_ret ?_
            obtain rfl := Option.some.inj h
            exact ⟨.inl rfl, [], by kernel_rfl⟩
          · replace h := cond_f hb h
            clear hb
            refine awp_skip ?_
            refine block_normal ?_
            refine then_normal ?_
            refine awp_seq ?_
            refine awp_region (rs := []) (cs := []) (live := [2, 3]) (names := []) (st' := (⟨[(2, (.int .i64 a_o.Bits)), (3, (.int .i64 a_o.Lanes))], []⟩ : St)) (obs := [(1 < List.length (α := AV) [(.int .i64 a_o.Kind), (.int .i64 a_o.Bits), (.int .i64 a_o.Lanes), (.int .i64 a_o.Dst), (AV.list 1 eI64 (0 : Int) a_o.Args .none), (.int .u64 a_o.Imm)]), (2 < List.length (α := AV) [(.int .i64 a_o.Kind), (.int .i64 a_o.Bits), (.int .i64 a_o.Lanes), (.int .i64 a_o.Dst), (AV.list 1 eI64 (0 : Int) a_o.Args .none), (.int .u64 a_o.Imm)])]) hn mix (no_hand hΓ) (by kernel_rfl) ⟨(Nat.le_of_ble_eq_true rfl), (Nat.le_of_ble_eq_true rfl), trivial⟩ ?_
            refine then_normal ?_
            refine awp_ret ?_
            obtain rfl := Option.some.inj h
            exact ⟨.inl rfl, [], by kernel_rfl⟩

noncomputable def m_kind_dstFits (a_o : TOp) : Option Bool :=
  ((m_kind_gives a_o).bind fun x1 => (bif ((x1.1 : Int) == (0 : Int)) then (some ((a_o.Dst : Int) == (0 : Int))) else ((m_kind_isValue a_o.Dst).bind fun x2 => (some x2))))
theorem ok_kind_dstFits (a_o : TOp) (r : Bool) (h : m_kind_dstFits a_o = some r) : Spec Try.prog 28 [(.agg (eTOp a_o))] [] (.bool r) [] := by
  refine spec_of_awp (fn := Try.f28) Try.func28 rfl rfl (by kernel_rfl) (fun Γ hn hΓ => ?_)
  have hn : Γ.n = 18 := hn
  unfold m_kind_dstFits at h
  refine awp_seq ?_
  refine awp_region (rs := []) (cs := []) (live := [1]) (names := [1]) (st' := (⟨[(1, (.ptr 1 0))], [(1, .row [(.int .i64 a_o.Kind), (.int .i64 a_o.Bits), (.int .i64 a_o.Lanes), (.int .i64 a_o.Dst), (AV.list 1 eI64 (0 : Int) a_o.Args .none), (.int .u64 a_o.Imm)])]⟩ : St)) (obs := []) hn mix (no_hand hΓ) (by kernel_rfl) trivial ?_
  refine then_normal ?_
  refine awp_seq ?_
  refine awp_seq ?_
  obtain ⟨x1, hx1, h⟩ := bind_some h
  refine awp_region (rs := [⟨[], [], (.tuple [(.int .i64 x1.1), (.int .i64 x1.2)]), []⟩]) (cs := []) (live := [1, 3]) (names := [1]) (st' := (⟨[(1, (.ptr 1 0)), (3, (.int .i64 x1.1))], [(1, .row [(.int .i64 a_o.Kind), (.int .i64 a_o.Bits), (.int .i64 a_o.Lanes), (.int .i64 a_o.Dst), (AV.list 1 eI64 (0 : Int) a_o.Args .none), (.int .u64 a_o.Imm)])]⟩ : St)) (obs := [(0 + 6 ≤ List.length (α := AV) [(.int .i64 a_o.Kind), (.int .i64 a_o.Bits), (.int .i64 a_o.Lanes), (.int .i64 a_o.Dst), (AV.list 1 eI64 (0 : Int) a_o.Args .none), (.int .u64 a_o.Imm)]), (Spec Try.prog 23 [(.agg (eTOp a_o))] [] (.tuple [(.int .i64 x1.1), (.int .i64 x1.2)]) [])]) hn mix (no_hand hΓ) (by kernel_rfl) ⟨(Nat.le_of_ble_eq_true rfl), (ok_kind_gives a_o x1 hx1), trivial⟩ ?_
  refine then_normal ?_
  refine awp_seq ?_
  refine awp_region (rs := []) (cs := []) (live := [1, 11]) (names := [1]) (st' := (⟨[(1, (.ptr 1 0)), (11, (.bool ((x1.1 : Int) == (0 : Int))))], [(1, .row [(.int .i64 a_o.Kind), (.int .i64 a_o.Bits), (.int .i64 a_o.Lanes), (.int .i64 a_o.Dst), (AV.list 1 eI64 (0 : Int) a_o.Args .none), (.int .u64 a_o.Imm)])]⟩ : St)) (obs := []) hn mix (no_hand hΓ) (by kernel_rfl) trivial ?_
  refine then_normal ?_
  refine awp_cond ((x1.1 : Int) == (0 : Int)) (by kernel_rfl) (fun hb => ?_) (fun hb => ?_)
  · replace h := cond_t hb h
    clear hb
    refine awp_seq ?_
    refine awp_region (rs := []) (cs := []) (live := [2]) (names := []) (st' := (⟨[(2, (.bool ((a_o.Dst : Int) == (0 : Int))))], []⟩ : St)) (obs := [(3 < List.length (α := AV) [(.int .i64 a_o.Kind), (.int .i64 a_o.Bits), (.int .i64 a_o.Lanes), (.int .i64 a_o.Dst), (AV.list 1 eI64 (0 : Int) a_o.Args .none), (.int .u64 a_o.Imm)])]) hn mix (no_hand hΓ) (by kernel_rfl) ⟨(Nat.le_of_ble_eq_true rfl), trivial⟩ ?_
    refine then_normal ?_
    refine awp_ret ?_
    refine then_ret ?_
    obtain rfl := Option.some.inj h
    exact ⟨.inl rfl, [], by kernel_rfl⟩
  · replace h := cond_f hb h
    clear hb
    refine awp_skip ?_
    refine then_normal ?_
    refine awp_seq ?_
    obtain ⟨x2, hx2, h⟩ := bind_some h
    refine awp_region (rs := [⟨[], [], (.bool x2), []⟩]) (cs := []) (live := [2]) (names := []) (st' := (⟨[(2, (.bool x2))], []⟩ : St)) (obs := [(3 < List.length (α := AV) [(.int .i64 a_o.Kind), (.int .i64 a_o.Bits), (.int .i64 a_o.Lanes), (.int .i64 a_o.Dst), (AV.list 1 eI64 (0 : Int) a_o.Args .none), (.int .u64 a_o.Imm)]), (Spec Try.prog 39 [(.int .i64 a_o.Dst)] [] (.bool x2) [])]) hn mix (no_hand hΓ) (by kernel_rfl) ⟨(Nat.le_of_ble_eq_true rfl), (ok_kind_isValue a_o.Dst x2 hx2), trivial⟩ ?_
    refine then_normal ?_
    refine awp_ret ?_
    obtain rfl := Option.some.inj h
    exact ⟨.inl rfl, [], by kernel_rfl⟩

noncomputable def m_kind_May (a_o : TOp) : Option Bool :=
  ((m_kind_isKind a_o.Kind).bind fun x1 => ((bif ((!x1) == false) then m_kind_Shape a_o.Bits a_o.Lanes else some (false)).bind fun x2 => ((bif ((bif (!x1) then true else (!x2)) == false) then m_kind_shapeFits a_o else some (false)).bind fun x3 => ((bif ((bif (bif (!x1) then true else (!x2)) then true else (!x3)) == false) then m_kind_immFits a_o else some (false)).bind fun x4 => (bif (bif (bif (bif (!x1) then true else (!x2)) then true else (!x3)) then true else (!x4)) then (some false) else ((m_kind_argsFit a_o).bind fun x5 => ((bif (x5 == true) then m_kind_dstFits a_o else some (false)).bind fun x6 => (some (bif x5 then x6 else false)))))))))
theorem ok_kind_May (a_o : TOp) (r : Bool) (h : m_kind_May a_o = some r) : Spec Try.prog 12 [(.agg (eTOp a_o))] [] (.bool r) [] := by
  refine spec_of_awp (fn := Try.f12) Try.func12 rfl rfl (by kernel_rfl) (fun Γ hn hΓ => ?_)
  have hn : Γ.n = 31 := hn
  unfold m_kind_May at h
  refine awp_seq ?_
  refine awp_region (rs := []) (cs := []) (live := [1]) (names := [1]) (st' := (⟨[(1, (.ptr 1 0))], [(1, .row [(.int .i64 a_o.Kind), (.int .i64 a_o.Bits), (.int .i64 a_o.Lanes), (.int .i64 a_o.Dst), (AV.list 1 eI64 (0 : Int) a_o.Args .none), (.int .u64 a_o.Imm)])]⟩ : St)) (obs := []) hn mix (no_hand hΓ) (by kernel_rfl) trivial ?_
  refine then_normal ?_
  refine awp_seq ?_
  refine awp_seq ?_
  obtain ⟨x1, hx1, h⟩ := bind_some h
  obtain ⟨x2, hx2, h⟩ := bind_some h
  obtain ⟨x3, hx3, h⟩ := bind_some h
  obtain ⟨x4, hx4, h⟩ := bind_some h
  refine awp_region (rs := [⟨[], [], (.bool x1), []⟩, ⟨[], [], (.bool x2), []⟩, ⟨[], [], (.bool x3), []⟩, ⟨[], [], (.bool x4), []⟩]) (cs := []) (live := [1, 24]) (names := [1]) (st' := (⟨[(1, (.ptr 1 0)), (24, (.bool (bif (bif (bif (!x1) then true else (!x2)) then true else (!x3)) then true else (!x4))))], [(1, .row [(.int .i64 a_o.Kind), (.int .i64 a_o.Bits), (.int .i64 a_o.Lanes), (.int .i64 a_o.Dst), (AV.list 1 eI64 (0 : Int) a_o.Args .none), (.int .u64 a_o.Imm)])]⟩ : St)) (obs := [(0 < List.length (α := AV) [(.int .i64 a_o.Kind), (.int .i64 a_o.Bits), (.int .i64 a_o.Lanes), (.int .i64 a_o.Dst), (AV.list 1 eI64 (0 : Int) a_o.Args .none), (.int .u64 a_o.Imm)]), (Spec Try.prog 24 [(.int .i64 a_o.Kind)] [] (.bool x1) []), (((!x1) == false) = true → ((!x1) == false) = true), (((!x1) == false) = true → (1 < List.length (α := AV) [(.int .i64 a_o.Kind), (.int .i64 a_o.Bits), (.int .i64 a_o.Lanes), (.int .i64 a_o.Dst), (AV.list 1 eI64 (0 : Int) a_o.Args .none), (.int .u64 a_o.Imm)])), (((!x1) == false) = true → ((!x1) == false) = true), (((!x1) == false) = true → (2 < List.length (α := AV) [(.int .i64 a_o.Kind), (.int .i64 a_o.Bits), (.int .i64 a_o.Lanes), (.int .i64 a_o.Dst), (AV.list 1 eI64 (0 : Int) a_o.Args .none), (.int .u64 a_o.Imm)])), (((!x1) == false) = true → ((!x1) == false) = true), (((!x1) == false) = true → ((!x1) == false) = true), (((!x1) == false) = true → (Spec Try.prog 17 [(.int .i64 a_o.Bits), (.int .i64 a_o.Lanes)] [] (.bool x2) [])), (((!x1) == false) = true → ((!x1) == false) = true), ((!x1) = false → ((!x1) == false) = true), (((bif (!x1) then true else (!x2)) == false) = true → (0 + 6 ≤ List.length (α := AV) [(.int .i64 a_o.Kind), (.int .i64 a_o.Bits), (.int .i64 a_o.Lanes), (.int .i64 a_o.Dst), (AV.list 1 eI64 (0 : Int) a_o.Args .none), (.int .u64 a_o.Imm)])), (((bif (!x1) then true else (!x2)) == false) = true → ((bif (!x1) then true else (!x2)) == false) = true), (((bif (!x1) then true else (!x2)) == false) = true → (Spec Try.prog 25 [(.agg (eTOp a_o))] [] (.bool x3) [])), (((bif (!x1) then true else (!x2)) == false) = true → ((bif (!x1) then true else (!x2)) == false) = true), ((bif (!x1) then true else (!x2)) = false → ((bif (!x1) then true else (!x2)) == false) = true), (((bif (bif (!x1) then true else (!x2)) then true else (!x3)) == false) = true → (0 + 6 ≤ List.length (α := AV) [(.int .i64 a_o.Kind), (.int .i64 a_o.Bits), (.int .i64 a_o.Lanes), (.int .i64 a_o.Dst), (AV.list 1 eI64 (0 : Int) a_o.Args .none), (.int .u64 a_o.Imm)])), (((bif (bif (!x1) then true else (!x2)) then true else (!x3)) == false) = true → ((bif (bif (!x1) then true else (!x2)) then true else (!x3)) == false) = true), (((bif (bif (!x1) then true else (!x2)) then true else (!x3)) == false) = true → (Spec Try.prog 26 [(.agg (eTOp a_o))] [] (.bool x4) [])), (((bif (bif (!x1) then true else (!x2)) then true else (!x3)) == false) = true → ((bif (bif (!x1) then true else (!x2)) then true else (!x3)) == false) = true), ((bif (bif (!x1) then true else (!x2)) then true else (!x3)) = false → ((bif (bif (!x1) then true else (!x2)) then true else (!x3)) == false) = true)]) hn mix (no_hand hΓ) (by kernel_rfl) ⟨(Nat.le_of_ble_eq_true rfl), (ok_kind_isKind a_o.Kind x1 hx1), (fun hg => hg), (fun hg => (Nat.le_of_ble_eq_true rfl)), (fun hg => hg), (fun hg => (Nat.le_of_ble_eq_true rfl)), (fun hg => hg), (fun hg => hg), (fun hg => (ok_kind_Shape a_o.Bits a_o.Lanes x2 (cond_t hg hx2))), (fun hg => hg), (fun hp => by rw [hp]; rfl), (fun hg => (Nat.le_of_ble_eq_true rfl)), (fun hg => hg), (fun hg => (ok_kind_shapeFits a_o x3 (cond_t hg hx3))), (fun hg => hg), (fun hp => by rw [hp]; rfl), (fun hg => (Nat.le_of_ble_eq_true rfl)), (fun hg => hg), (fun hg => (ok_kind_immFits a_o x4 (cond_t hg hx4))), (fun hg => hg), (fun hp => by rw [hp]; rfl), trivial⟩ ?_
  refine then_normal ?_
  refine awp_cond (bif (bif (bif (!x1) then true else (!x2)) then true else (!x3)) then true else (!x4)) (by kernel_rfl) (fun hb => ?_) (fun hb => ?_)
  · replace h := cond_t hb h
    clear hb
    refine awp_seq ?_
    refine awp_region (rs := []) (cs := []) (live := [2]) (names := []) (st' := (⟨[(2, (.bool false))], []⟩ : St)) (obs := []) hn mix (no_hand hΓ) (by kernel_rfl) trivial ?_
    refine then_normal ?_
    refine awp_ret ?_
    refine then_ret ?_
    obtain rfl := Option.some.inj h
    exact ⟨.inl rfl, [], by kernel_rfl⟩
  · replace h := cond_f hb h
    clear hb
    refine awp_skip ?_
    refine then_normal ?_
    refine awp_seq ?_
    obtain ⟨x5, hx5, h⟩ := bind_some h
    obtain ⟨x6, hx6, h⟩ := bind_some h
    refine awp_region (rs := [⟨[], [], (.bool x5), []⟩, ⟨[], [], (.bool x6), []⟩]) (cs := []) (live := [2]) (names := []) (st' := (⟨[(2, (.bool (bif x5 then x6 else false)))], []⟩ : St)) (obs := [(0 + 6 ≤ List.length (α := AV) [(.int .i64 a_o.Kind), (.int .i64 a_o.Bits), (.int .i64 a_o.Lanes), (.int .i64 a_o.Dst), (AV.list 1 eI64 (0 : Int) a_o.Args .none), (.int .u64 a_o.Imm)]), (Spec Try.prog 27 [(.agg (eTOp a_o))] [] (.bool x5) []), ((x5 == true) = true → (0 + 6 ≤ List.length (α := AV) [(.int .i64 a_o.Kind), (.int .i64 a_o.Bits), (.int .i64 a_o.Lanes), (.int .i64 a_o.Dst), (AV.list 1 eI64 (0 : Int) a_o.Args .none), (.int .u64 a_o.Imm)])), ((x5 == true) = true → (x5 == true) = true), ((x5 == true) = true → (Spec Try.prog 28 [(.agg (eTOp a_o))] [] (.bool x6) [])), (x5 = true → (x5 == true) = true)]) hn mix (no_hand hΓ) (by kernel_rfl) ⟨(Nat.le_of_ble_eq_true rfl), (ok_kind_argsFit a_o x5 hx5), (fun hg => (Nat.le_of_ble_eq_true rfl)), (fun hg => hg), (fun hg => (ok_kind_dstFits a_o x6 (cond_t hg hx6))), (fun hp => by rw [hp]; rfl), trivial⟩ ?_
    refine then_normal ?_
    refine awp_ret ?_
    obtain rfl := Option.some.inj h
    exact ⟨.inl rfl, [], by kernel_rfl⟩

noncomputable def m_kind_Gives (a_o : TOp) : Option (Int × Int) :=
  ((m_kind_May a_o).bind fun x1 => (bif (!x1) then (some ((0 : Int), (0 : Int))) else ((m_kind_gives a_o).bind fun x2 => (some (x2.1, x2.2)))))
theorem ok_kind_Gives (a_o : TOp) (r : (Int × Int)) (h : m_kind_Gives a_o = some r) : Spec Try.prog 10 [(.agg (eTOp a_o))] [] (.tuple [(.int .i64 r.1), (.int .i64 r.2)]) [] := by
  refine spec_of_awp (fn := Try.f10) Try.func10 rfl rfl (by kernel_rfl) (fun Γ hn hΓ => ?_)
  have hn : Γ.n = 11 := hn
  unfold m_kind_Gives at h
  refine awp_seq ?_
  refine awp_region (rs := []) (cs := []) (live := [1]) (names := [1]) (st' := (⟨[(1, (.ptr 1 0))], [(1, .row [(.int .i64 a_o.Kind), (.int .i64 a_o.Bits), (.int .i64 a_o.Lanes), (.int .i64 a_o.Dst), (AV.list 1 eI64 (0 : Int) a_o.Args .none), (.int .u64 a_o.Imm)])]⟩ : St)) (obs := []) hn mix (no_hand hΓ) (by kernel_rfl) trivial ?_
  refine then_normal ?_
  refine awp_seq ?_
  refine awp_seq ?_
  obtain ⟨x1, hx1, h⟩ := bind_some h
  refine awp_region (rs := [⟨[], [], (.bool x1), []⟩]) (cs := []) (live := [1, 6]) (names := [1]) (st' := (⟨[(1, (.ptr 1 0)), (6, (.bool (!x1)))], [(1, .row [(.int .i64 a_o.Kind), (.int .i64 a_o.Bits), (.int .i64 a_o.Lanes), (.int .i64 a_o.Dst), (AV.list 1 eI64 (0 : Int) a_o.Args .none), (.int .u64 a_o.Imm)])]⟩ : St)) (obs := [(0 + 6 ≤ List.length (α := AV) [(.int .i64 a_o.Kind), (.int .i64 a_o.Bits), (.int .i64 a_o.Lanes), (.int .i64 a_o.Dst), (AV.list 1 eI64 (0 : Int) a_o.Args .none), (.int .u64 a_o.Imm)]), (Spec Try.prog 12 [(.agg (eTOp a_o))] [] (.bool x1) [])]) hn mix (no_hand hΓ) (by kernel_rfl) ⟨(Nat.le_of_ble_eq_true rfl), (ok_kind_May a_o x1 hx1), trivial⟩ ?_
  refine then_normal ?_
  refine awp_cond (!x1) (by kernel_rfl) (fun hb => ?_) (fun hb => ?_)
  · replace h := cond_t hb h
    clear hb
    refine awp_seq ?_
    refine awp_region (rs := []) (cs := []) (live := [2, 3]) (names := []) (st' := (⟨[(2, (.int .i64 (0 : Int))), (3, (.int .i64 (0 : Int)))], []⟩ : St)) (obs := []) hn mix (no_hand hΓ) (by kernel_rfl) trivial ?_
    refine then_normal ?_
    refine awp_ret ?_
    refine then_ret ?_
    obtain rfl := Option.some.inj h
    exact ⟨.inl rfl, [], by kernel_rfl⟩
  · replace h := cond_f hb h
    clear hb
    refine awp_skip ?_
    refine then_normal ?_
    refine awp_seq ?_
    obtain ⟨x2, hx2, h⟩ := bind_some h
    refine awp_region (rs := [⟨[], [], (.tuple [(.int .i64 x2.1), (.int .i64 x2.2)]), []⟩]) (cs := []) (live := [2, 3]) (names := []) (st' := (⟨[(2, (.int .i64 x2.1)), (3, (.int .i64 x2.2))], []⟩ : St)) (obs := [(0 + 6 ≤ List.length (α := AV) [(.int .i64 a_o.Kind), (.int .i64 a_o.Bits), (.int .i64 a_o.Lanes), (.int .i64 a_o.Dst), (AV.list 1 eI64 (0 : Int) a_o.Args .none), (.int .u64 a_o.Imm)]), (Spec Try.prog 23 [(.agg (eTOp a_o))] [] (.tuple [(.int .i64 x2.1), (.int .i64 x2.2)]) [])]) hn mix (no_hand hΓ) (by kernel_rfl) ⟨(Nat.le_of_ble_eq_true rfl), (ok_kind_gives a_o x2 hx2), trivial⟩ ?_
    refine then_normal ?_
    refine awp_ret ?_
    obtain rfl := Option.some.inj h
    exact ⟨.inl rfl, [], by kernel_rfl⟩

noncomputable def m_kind_Pure (a_kind : Int) : Option Bool :=
  (Option.bind (α := Bool) (bif ((a_kind : Int) == (4 : Int)) then (some (((a_kind : Int) == (4 : Int)))) else (bif ((a_kind : Int) == (16 : Int)) then (some (((a_kind : Int) == (16 : Int)))) else (bif ((a_kind : Int) == (17 : Int)) then (some (((a_kind : Int) == (17 : Int)))) else (bif ((a_kind : Int) == (18 : Int)) then (some (((a_kind : Int) == (18 : Int)))) else (bif ((a_kind : Int) == (19 : Int)) then (some (((a_kind : Int) == (19 : Int)))) else (some (((a_kind : Int) == (20 : Int))))))))) (fun x2 => ((bif x2 then (some false) else ((m_kind_isKind a_kind).bind fun x4 => (some x4))))))
theorem ok_kind_Pure (a_kind : Int) (r : Bool) (h : m_kind_Pure a_kind = some r) : Spec Try.prog 19 [(.int .i64 a_kind)] [] (.bool r) [] := by
  refine spec_of_awp (fn := Try.f19) Try.func19 rfl rfl (by kernel_rfl) (fun Γ hn hΓ => ?_)
  have hn : Γ.n = 13 := hn
  unfold m_kind_Pure at h
  refine awp_seq ?_
  refine awp_region (rs := []) (cs := []) (live := [0]) (names := []) (st' := (⟨[(0, (.int .i64 a_kind))], []⟩ : St)) (obs := []) hn mix (no_hand hΓ) (by kernel_rfl) trivial ?_
  refine then_normal ?_
  refine awp_seq ?_
  refine awp_seq ?_
  refine awp_region (rs := []) (cs := []) (live := [0, 3]) (names := []) (st' := (⟨[(0, (.int .i64 a_kind)), (3, (.int .i64 a_kind))], []⟩ : St)) (obs := []) hn mix (no_hand hΓ) (by kernel_rfl) trivial ?_
  refine then_normal ?_
  refine awp_block ?_
  refine awp_seq ?_
  obtain ⟨x2, hx2, h⟩ := bind_some h
  refine awp_join (fun (b1 : Bool) (e : Exit) (st : St) => e = .normal ∧ Le Γ st (⟨[(0, (.int .i64 a_kind)), (4, (.bool b1))], []⟩ : St)) hx2 ?_ ?_
  · clear h hx2
    intro y h
    refine awp_seq ?_
    refine awp_region (rs := []) (cs := []) (live := [0, 3, 4]) (names := []) (st' := (⟨[(0, (.int .i64 a_kind)), (3, (.int .i64 a_kind)), (4, (.bool ((a_kind : Int) == (4 : Int))))], []⟩ : St)) (obs := []) hn mix (no_hand hΓ) (by kernel_rfl) trivial ?_
    refine then_normal ?_
    refine awp_cond ((a_kind : Int) == (4 : Int)) (by kernel_rfl) (fun hb => ?_) (fun hb => ?_)
    · replace h := cond_t hb h
      clear hb
      refine awp_skip ?_
      obtain rfl := Option.some.inj h
      exact ⟨rfl, le_restrict_eq [0, 4] [] (by kernel_rfl) (no_hand hΓ)⟩
    · replace h := cond_f hb h
      clear hb
      refine awp_seq ?_
      refine awp_region (rs := []) (cs := []) (live := [0, 3, 4]) (names := []) (st' := (⟨[(0, (.int .i64 a_kind)), (3, (.int .i64 a_kind)), (4, (.bool ((a_kind : Int) == (16 : Int))))], []⟩ : St)) (obs := []) hn mix (no_hand hΓ) (by kernel_rfl) trivial ?_
      refine then_normal ?_
      refine awp_cond ((a_kind : Int) == (16 : Int)) (by kernel_rfl) (fun hb => ?_) (fun hb => ?_)
      · replace h := cond_t hb h
        clear hb
        refine awp_skip ?_
        obtain rfl := Option.some.inj h
        exact ⟨rfl, le_restrict_eq [0, 4] [] (by kernel_rfl) (no_hand hΓ)⟩
      · replace h := cond_f hb h
        clear hb
        refine awp_seq ?_
        refine awp_region (rs := []) (cs := []) (live := [0, 3, 4]) (names := []) (st' := (⟨[(0, (.int .i64 a_kind)), (3, (.int .i64 a_kind)), (4, (.bool ((a_kind : Int) == (17 : Int))))], []⟩ : St)) (obs := []) hn mix (no_hand hΓ) (by kernel_rfl) trivial ?_
        refine then_normal ?_
        refine awp_cond ((a_kind : Int) == (17 : Int)) (by kernel_rfl) (fun hb => ?_) (fun hb => ?_)
        · replace h := cond_t hb h
          clear hb
          refine awp_skip ?_
          obtain rfl := Option.some.inj h
          exact ⟨rfl, le_restrict_eq [0, 4] [] (by kernel_rfl) (no_hand hΓ)⟩
        · replace h := cond_f hb h
          clear hb
          refine awp_seq ?_
          refine awp_region (rs := []) (cs := []) (live := [0, 3, 4]) (names := []) (st' := (⟨[(0, (.int .i64 a_kind)), (3, (.int .i64 a_kind)), (4, (.bool ((a_kind : Int) == (18 : Int))))], []⟩ : St)) (obs := []) hn mix (no_hand hΓ) (by kernel_rfl) trivial ?_
          refine then_normal ?_
          refine awp_cond ((a_kind : Int) == (18 : Int)) (by kernel_rfl) (fun hb => ?_) (fun hb => ?_)
          · replace h := cond_t hb h
            clear hb
            refine awp_skip ?_
            obtain rfl := Option.some.inj h
            exact ⟨rfl, le_restrict_eq [0, 4] [] (by kernel_rfl) (no_hand hΓ)⟩
          · replace h := cond_f hb h
            clear hb
            refine awp_seq ?_
            refine awp_region (rs := []) (cs := []) (live := [0, 3, 4]) (names := []) (st' := (⟨[(0, (.int .i64 a_kind)), (3, (.int .i64 a_kind)), (4, (.bool ((a_kind : Int) == (19 : Int))))], []⟩ : St)) (obs := []) hn mix (no_hand hΓ) (by kernel_rfl) trivial ?_
            refine then_normal ?_
            refine awp_cond ((a_kind : Int) == (19 : Int)) (by kernel_rfl) (fun hb => ?_) (fun hb => ?_)
            · replace h := cond_t hb h
              clear hb
              refine awp_skip ?_
              obtain rfl := Option.some.inj h
              exact ⟨rfl, le_restrict_eq [0, 4] [] (by kernel_rfl) (no_hand hΓ)⟩
            · replace h := cond_f hb h
              clear hb
              refine awp_region (rs := []) (cs := []) (live := [0, 4]) (names := []) (st' := (⟨[(0, (.int .i64 a_kind)), (4, (.bool ((a_kind : Int) == (20 : Int))))], []⟩ : St)) (obs := []) hn mix (no_hand hΓ) (by kernel_rfl) trivial ?_
              obtain rfl := Option.some.inj h
              exact ⟨rfl, Le.refl _ _⟩
  · clear hx2
    rintro e st' ⟨rfl, hl3⟩
    refine then_normal ?_
    refine awp_le hl3 ?_
    refine awp_cond x2 (by kernel_rfl) (fun hb => ?_) (fun hb => ?_)
    · replace h := cond_t hb h
      clear hb
      refine awp_seq ?_
      refine awp_region (rs := []) (cs := []) (live := [2]) (names := []) (st' := (⟨[(2, (.bool false))], []⟩ : St)) (obs := []) hn mix (no_hand hΓ) (by kernel_rfl) trivial ?_
      refine then_normal ?_
      refine awp_ret ?_
      refine block_ret ?_
      refine then_ret ?_
      obtain rfl := Option.some.inj h
      exact ⟨.inl rfl, [], by kernel_rfl⟩
    · replace h := cond_f hb h
      clear hb
      refine awp_skip ?_
      refine block_normal ?_
      refine then_normal ?_
      refine awp_seq ?_
      obtain ⟨x4, hx4, h⟩ := bind_some h
      refine awp_region (rs := [⟨[], [], (.bool x4), []⟩]) (cs := []) (live := [2]) (names := []) (st' := (⟨[(2, (.bool x4))], []⟩ : St)) (obs := [(Spec Try.prog 24 [(.int .i64 a_kind)] [] (.bool x4) [])]) hn mix (no_hand hΓ) (by kernel_rfl) ⟨(ok_kind_isKind a_kind x4 hx4), trivial⟩ ?_
      refine then_normal ?_
      refine awp_ret ?_
      obtain rfl := Option.some.inj h
      exact ⟨.inl rfl, [], by kernel_rfl⟩

noncomputable def m_locksteplaw03_awake  : Option Bool :=
  ((m_kind_Gives (⟨(1 : Int), (8 : Int), (16 : Int), (3 : Int), ([(1 : Int), (2 : Int)] : List (Int)), (0 : Int)⟩ : TOp)).bind fun x1 => ((m_kind_May (⟨(1 : Int), (8 : Int), (16 : Int), (3 : Int), ([(1 : Int), (2 : Int)] : List (Int)), (0 : Int)⟩ : TOp)).bind fun x2 => ((bif ((bif (bif x2 then ((x1.1 : Int) == (8 : Int)) else false) then ((x1.2 : Int) == (16 : Int)) else false) == true) then m_kind_May (⟨(1 : Int), (16 : Int), (16 : Int), (3 : Int), ([(1 : Int), (2 : Int)] : List (Int)), (0 : Int)⟩ : TOp) else some (false)).bind fun x3 => ((bif ((bif (bif (bif x2 then ((x1.1 : Int) == (8 : Int)) else false) then ((x1.2 : Int) == (16 : Int)) else false) then (!x3) else false) == true) then m_kind_Shape (64 : Int) (2 : Int) else some (false)).bind fun x4 => ((bif ((bif (bif (bif (bif x2 then ((x1.1 : Int) == (8 : Int)) else false) then ((x1.2 : Int) == (16 : Int)) else false) then (!x3) else false) then x4 else false) == true) then m_kind_Shape (64 : Int) (4 : Int) else some (false)).bind fun x5 => ((bif ((bif (bif (bif (bif (bif x2 then ((x1.1 : Int) == (8 : Int)) else false) then ((x1.2 : Int) == (16 : Int)) else false) then (!x3) else false) then x4 else false) then (!x5) else false) == true) then m_kind_Pure (1 : Int) else some (false)).bind fun x6 => ((bif ((bif (bif (bif (bif (bif (bif x2 then ((x1.1 : Int) == (8 : Int)) else false) then ((x1.2 : Int) == (16 : Int)) else false) then (!x3) else false) then x4 else false) then (!x5) else false) then x6 else false) == true) then m_kind_Pure (4 : Int) else some (false)).bind fun x7 => (some (bif (bif (bif (bif (bif (bif (bif x2 then ((x1.1 : Int) == (8 : Int)) else false) then ((x1.2 : Int) == (16 : Int)) else false) then (!x3) else false) then x4 else false) then (!x5) else false) then x6 else false) then (!x7) else false)))))))))
theorem ok_locksteplaw03_awake  (r : Bool) (h : m_locksteplaw03_awake = some r) : Spec Try.prog 9 [] [] (.bool r) [] := by
  refine spec_of_awp (fn := Try.f9) Try.func9 rfl rfl (by kernel_rfl) (fun Γ hn hΓ => ?_)
  have hn : Γ.n = 43 := hn
  unfold m_locksteplaw03_awake at h
  refine awp_seq ?_
  refine awp_region (rs := []) (cs := []) (live := []) (names := []) (st' := (⟨[], []⟩ : St)) (obs := []) hn mix (no_hand hΓ) (by kernel_rfl) trivial ?_
  refine then_normal ?_
  refine awp_seq ?_
  refine awp_region (rs := []) (cs := [(5, (AV.list 1 eI64 (0 : Int) ([(1 : Int), (2 : Int)] : List (Int)) .exact))]) (live := [1]) (names := [1]) (st' := (⟨[(1, (.ptr 1 0))], [(1, .row [(.int .i64 (1 : Int)), (.int .i64 (8 : Int)), (.int .i64 (16 : Int)), (.int .i64 (3 : Int)), (AV.list 1 eI64 (0 : Int) ([(1 : Int), (2 : Int)] : List (Int)) .exact), (.int .u64 (0 : Int))])]⟩ : St)) (obs := [(AVle (.slice 1 2 (fun i => ([[(.int .i64 (1 : Int))], [(.int .i64 (2 : Int))]] : List (List AV)).getD i []) .exact) (AV.list 1 eI64 (0 : Int) ([(1 : Int), (2 : Int)] : List (Int)) .exact)), (0 + List.length (α := AV) [(.int .i64 (1 : Int)), (.int .i64 (8 : Int)), (.int .i64 (16 : Int)), (.int .i64 (3 : Int)), (AV.list 1 eI64 (0 : Int) ([(1 : Int), (2 : Int)] : List (Int)) .exact), (.int .u64 (0 : Int))] ≤ List.length (α := AV) [(.int .i64 (0 : Int)), (.int .i64 (0 : Int)), (.int .i64 (0 : Int)), (.int .i64 (0 : Int)), (.slice 0 0 (fun _ => []) .exact), (.int .u64 (0 : Int))])]) hn mix (no_hand hΓ) (by kernel_rfl) ⟨(av_lit rfl (fun i hi => map_get (e := eI64) (d := (0 : Int)) ([(1 : Int), (2 : Int)] : List (Int)) i hi)), (Nat.le_of_ble_eq_true rfl), trivial⟩ ?_
  refine then_normal ?_
  refine awp_seq ?_
  obtain ⟨x1, hx1, h⟩ := bind_some h
  refine awp_region (rs := [⟨[], [], (.tuple [(.int .i64 x1.1), (.int .i64 x1.2)]), []⟩]) (cs := []) (live := [1, 2, 3]) (names := [1]) (st' := (⟨[(1, (.ptr 1 0)), (2, (.int .i64 x1.1)), (3, (.int .i64 x1.2))], [(1, .row [(.int .i64 (1 : Int)), (.int .i64 (8 : Int)), (.int .i64 (16 : Int)), (.int .i64 (3 : Int)), (AV.list 1 eI64 (0 : Int) ([(1 : Int), (2 : Int)] : List (Int)) .exact), (.int .u64 (0 : Int))])]⟩ : St)) (obs := [(0 + 6 ≤ List.length (α := AV) [(.int .i64 (1 : Int)), (.int .i64 (8 : Int)), (.int .i64 (16 : Int)), (.int .i64 (3 : Int)), (AV.list 1 eI64 (0 : Int) ([(1 : Int), (2 : Int)] : List (Int)) .exact), (.int .u64 (0 : Int))]), (Spec Try.prog 10 [(.agg [(.int .i64 (1 : Int)), (.int .i64 (8 : Int)), (.int .i64 (16 : Int)), (.int .i64 (3 : Int)), (AV.list 1 eI64 (0 : Int) ([(1 : Int), (2 : Int)] : List (Int)) .none), (.int .u64 (0 : Int))])] [] (.tuple [(.int .i64 x1.1), (.int .i64 x1.2)]) [])]) hn mix (no_hand hΓ) (by kernel_rfl) ⟨(Nat.le_of_ble_eq_true rfl), (ok_kind_Gives (⟨(1 : Int), (8 : Int), (16 : Int), (3 : Int), ([(1 : Int), (2 : Int)] : List (Int)), (0 : Int)⟩ : TOp) x1 hx1), trivial⟩ ?_
  refine then_normal ?_
  refine awp_seq ?_
  obtain ⟨x2, hx2, h⟩ := bind_some h
  refine awp_region (rs := [⟨[], [], (.bool x2), []⟩]) (cs := []) (live := [1, 2, 3, 4]) (names := [1]) (st' := (⟨[(1, (.ptr 1 0)), (2, (.int .i64 x1.1)), (3, (.int .i64 x1.2)), (4, (.bool x2))], [(1, .row [(.int .i64 (1 : Int)), (.int .i64 (8 : Int)), (.int .i64 (16 : Int)), (.int .i64 (3 : Int)), (AV.list 1 eI64 (0 : Int) ([(1 : Int), (2 : Int)] : List (Int)) .exact), (.int .u64 (0 : Int))])]⟩ : St)) (obs := [(0 + 6 ≤ List.length (α := AV) [(.int .i64 (1 : Int)), (.int .i64 (8 : Int)), (.int .i64 (16 : Int)), (.int .i64 (3 : Int)), (AV.list 1 eI64 (0 : Int) ([(1 : Int), (2 : Int)] : List (Int)) .exact), (.int .u64 (0 : Int))]), (Spec Try.prog 12 [(.agg [(.int .i64 (1 : Int)), (.int .i64 (8 : Int)), (.int .i64 (16 : Int)), (.int .i64 (3 : Int)), (AV.list 1 eI64 (0 : Int) ([(1 : Int), (2 : Int)] : List (Int)) .none), (.int .u64 (0 : Int))])] [] (.bool x2) [])]) hn mix (no_hand hΓ) (by kernel_rfl) ⟨(Nat.le_of_ble_eq_true rfl), (ok_kind_May (⟨(1 : Int), (8 : Int), (16 : Int), (3 : Int), ([(1 : Int), (2 : Int)] : List (Int)), (0 : Int)⟩ : TOp) x2 hx2), trivial⟩ ?_
  refine then_normal ?_
  refine awp_seq ?_
  refine awp_region (rs := []) (cs := []) (live := [1, 2, 3, 4]) (names := [1]) (st' := (⟨[(1, (.ptr 1 0)), (2, (.int .i64 x1.1)), (3, (.int .i64 x1.2)), (4, (.bool x2))], [(1, .row [(.int .i64 (1 : Int)), (.int .i64 (16 : Int)), (.int .i64 (16 : Int)), (.int .i64 (3 : Int)), (AV.list 1 eI64 (0 : Int) ([(1 : Int), (2 : Int)] : List (Int)) .exact), (.int .u64 (0 : Int))])]⟩ : St)) (obs := [(1 + List.length (α := AV) [(.int .i64 (16 : Int))] ≤ List.length (α := AV) [(.int .i64 (1 : Int)), (.int .i64 (8 : Int)), (.int .i64 (16 : Int)), (.int .i64 (3 : Int)), (AV.list 1 eI64 (0 : Int) ([(1 : Int), (2 : Int)] : List (Int)) .exact), (.int .u64 (0 : Int))])]) hn mix (no_hand hΓ) (by kernel_rfl) ⟨(Nat.le_of_ble_eq_true rfl), trivial⟩ ?_
  refine then_normal ?_
  refine awp_seq ?_
  obtain ⟨x3, hx3, h⟩ := bind_some h
  obtain ⟨x4, hx4, h⟩ := bind_some h
  obtain ⟨x5, hx5, h⟩ := bind_some h
  obtain ⟨x6, hx6, h⟩ := bind_some h
  obtain ⟨x7, hx7, h⟩ := bind_some h
  refine awp_region (rs := [⟨[], [], (.bool x3), []⟩, ⟨[], [], (.bool x4), []⟩, ⟨[], [], (.bool x5), []⟩, ⟨[], [], (.bool x6), []⟩, ⟨[], [], (.bool x7), []⟩]) (cs := []) (live := [0]) (names := []) (st' := (⟨[(0, (.bool (bif (bif (bif (bif (bif (bif (bif x2 then ((x1.1 : Int) == (8 : Int)) else false) then ((x1.2 : Int) == (16 : Int)) else false) then (!x3) else false) then x4 else false) then (!x5) else false) then x6 else false) then (!x7) else false)))], []⟩ : St)) (obs := [((x2 == true) = true → (x2 == true) = true), (x2 = true → (x2 == true) = true), (((bif x2 then ((x1.1 : Int) == (8 : Int)) else false) == true) = true → ((bif x2 then ((x1.1 : Int) == (8 : Int)) else false) == true) = true), ((bif x2 then ((x1.1 : Int) == (8 : Int)) else false) = true → ((bif x2 then ((x1.1 : Int) == (8 : Int)) else false) == true) = true), (((bif (bif x2 then ((x1.1 : Int) == (8 : Int)) else false) then ((x1.2 : Int) == (16 : Int)) else false) == true) = true → (0 + 6 ≤ List.length (α := AV) [(.int .i64 (1 : Int)), (.int .i64 (16 : Int)), (.int .i64 (16 : Int)), (.int .i64 (3 : Int)), (AV.list 1 eI64 (0 : Int) ([(1 : Int), (2 : Int)] : List (Int)) .exact), (.int .u64 (0 : Int))])), (((bif (bif x2 then ((x1.1 : Int) == (8 : Int)) else false) then ((x1.2 : Int) == (16 : Int)) else false) == true) = true → ((bif (bif x2 then ((x1.1 : Int) == (8 : Int)) else false) then ((x1.2 : Int) == (16 : Int)) else false) == true) = true), (((bif (bif x2 then ((x1.1 : Int) == (8 : Int)) else false) then ((x1.2 : Int) == (16 : Int)) else false) == true) = true → (Spec Try.prog 12 [(.agg [(.int .i64 (1 : Int)), (.int .i64 (16 : Int)), (.int .i64 (16 : Int)), (.int .i64 (3 : Int)), (AV.list 1 eI64 (0 : Int) ([(1 : Int), (2 : Int)] : List (Int)) .none), (.int .u64 (0 : Int))])] [] (.bool x3) [])), (((bif (bif x2 then ((x1.1 : Int) == (8 : Int)) else false) then ((x1.2 : Int) == (16 : Int)) else false) == true) = true → ((bif (bif x2 then ((x1.1 : Int) == (8 : Int)) else false) then ((x1.2 : Int) == (16 : Int)) else false) == true) = true), ((bif (bif x2 then ((x1.1 : Int) == (8 : Int)) else false) then ((x1.2 : Int) == (16 : Int)) else false) = true → ((bif (bif x2 then ((x1.1 : Int) == (8 : Int)) else false) then ((x1.2 : Int) == (16 : Int)) else false) == true) = true), (((bif (bif (bif x2 then ((x1.1 : Int) == (8 : Int)) else false) then ((x1.2 : Int) == (16 : Int)) else false) then (!x3) else false) == true) = true → (Spec Try.prog 17 [(.int .i64 (64 : Int)), (.int .i64 (2 : Int))] [] (.bool x4) [])), ((bif (bif (bif x2 then ((x1.1 : Int) == (8 : Int)) else false) then ((x1.2 : Int) == (16 : Int)) else false) then (!x3) else false) = true → ((bif (bif (bif x2 then ((x1.1 : Int) == (8 : Int)) else false) then ((x1.2 : Int) == (16 : Int)) else false) then (!x3) else false) == true) = true), (((bif (bif (bif (bif x2 then ((x1.1 : Int) == (8 : Int)) else false) then ((x1.2 : Int) == (16 : Int)) else false) then (!x3) else false) then x4 else false) == true) = true → (Spec Try.prog 17 [(.int .i64 (64 : Int)), (.int .i64 (4 : Int))] [] (.bool x5) [])), (((bif (bif (bif (bif x2 then ((x1.1 : Int) == (8 : Int)) else false) then ((x1.2 : Int) == (16 : Int)) else false) then (!x3) else false) then x4 else false) == true) = true → ((bif (bif (bif (bif x2 then ((x1.1 : Int) == (8 : Int)) else false) then ((x1.2 : Int) == (16 : Int)) else false) then (!x3) else false) then x4 else false) == true) = true), ((bif (bif (bif (bif x2 then ((x1.1 : Int) == (8 : Int)) else false) then ((x1.2 : Int) == (16 : Int)) else false) then (!x3) else false) then x4 else false) = true → ((bif (bif (bif (bif x2 then ((x1.1 : Int) == (8 : Int)) else false) then ((x1.2 : Int) == (16 : Int)) else false) then (!x3) else false) then x4 else false) == true) = true), (((bif (bif (bif (bif (bif x2 then ((x1.1 : Int) == (8 : Int)) else false) then ((x1.2 : Int) == (16 : Int)) else false) then (!x3) else false) then x4 else false) then (!x5) else false) == true) = true → (Spec Try.prog 19 [(.int .i64 (1 : Int))] [] (.bool x6) [])), ((bif (bif (bif (bif (bif x2 then ((x1.1 : Int) == (8 : Int)) else false) then ((x1.2 : Int) == (16 : Int)) else false) then (!x3) else false) then x4 else false) then (!x5) else false) = true → ((bif (bif (bif (bif (bif x2 then ((x1.1 : Int) == (8 : Int)) else false) then ((x1.2 : Int) == (16 : Int)) else false) then (!x3) else false) then x4 else false) then (!x5) else false) == true) = true), (((bif (bif (bif (bif (bif (bif x2 then ((x1.1 : Int) == (8 : Int)) else false) then ((x1.2 : Int) == (16 : Int)) else false) then (!x3) else false) then x4 else false) then (!x5) else false) then x6 else false) == true) = true → (Spec Try.prog 19 [(.int .i64 (4 : Int))] [] (.bool x7) [])), (((bif (bif (bif (bif (bif (bif x2 then ((x1.1 : Int) == (8 : Int)) else false) then ((x1.2 : Int) == (16 : Int)) else false) then (!x3) else false) then x4 else false) then (!x5) else false) then x6 else false) == true) = true → ((bif (bif (bif (bif (bif (bif x2 then ((x1.1 : Int) == (8 : Int)) else false) then ((x1.2 : Int) == (16 : Int)) else false) then (!x3) else false) then x4 else false) then (!x5) else false) then x6 else false) == true) = true), ((bif (bif (bif (bif (bif (bif x2 then ((x1.1 : Int) == (8 : Int)) else false) then ((x1.2 : Int) == (16 : Int)) else false) then (!x3) else false) then x4 else false) then (!x5) else false) then x6 else false) = true → ((bif (bif (bif (bif (bif (bif x2 then ((x1.1 : Int) == (8 : Int)) else false) then ((x1.2 : Int) == (16 : Int)) else false) then (!x3) else false) then x4 else false) then (!x5) else false) then x6 else false) == true) = true)]) hn mix (no_hand hΓ) (by kernel_rfl) ⟨(fun hg => hg), (fun hp => by rw [hp]; rfl), (fun hg => hg), (fun hp => by rw [hp]; rfl), (fun hg => (Nat.le_of_ble_eq_true rfl)), (fun hg => hg), (fun hg => (ok_kind_May (⟨(1 : Int), (16 : Int), (16 : Int), (3 : Int), ([(1 : Int), (2 : Int)] : List (Int)), (0 : Int)⟩ : TOp) x3 (cond_t hg hx3))), (fun hg => hg), (fun hp => by rw [hp]; rfl), (fun hg => (ok_kind_Shape (64 : Int) (2 : Int) x4 (cond_t hg hx4))), (fun hp => by rw [hp]; rfl), (fun hg => (ok_kind_Shape (64 : Int) (4 : Int) x5 (cond_t hg hx5))), (fun hg => hg), (fun hp => by rw [hp]; rfl), (fun hg => (ok_kind_Pure (1 : Int) x6 (cond_t hg hx6))), (fun hp => by rw [hp]; rfl), (fun hg => (ok_kind_Pure (4 : Int) x7 (cond_t hg hx7))), (fun hg => hg), (fun hp => by rw [hp]; rfl), trivial⟩ ?_
  refine then_normal ?_
  refine awp_ret ?_
  obtain rfl := Option.some.inj h
  exact ⟨.inl rfl, [], by kernel_rfl⟩

noncomputable def m_lockstepref01_May (a_bits : Int) : Option Bool :=
  (some (bif (bif (bif (bif ((a_bits : Int) == (1 : Int)) then true else ((a_bits : Int) == (8 : Int))) then true else ((a_bits : Int) == (16 : Int))) then true else ((a_bits : Int) == (32 : Int))) then true else ((a_bits : Int) == (64 : Int))))
theorem ok_lockstepref01_May (a_bits : Int) (r : Bool) (h : m_lockstepref01_May a_bits = some r) : Spec Try.prog 34 [(.int .i64 a_bits)] [] (.bool r) [] := by
  refine spec_of_awp (fn := Try.f34) Try.func34 rfl rfl (by kernel_rfl) (fun Γ hn hΓ => ?_)
  have hn : Γ.n = 21 := hn
  unfold m_lockstepref01_May at h
  refine awp_seq ?_
  refine awp_region (rs := []) (cs := []) (live := [0]) (names := []) (st' := (⟨[(0, (.int .i64 a_bits))], []⟩ : St)) (obs := []) hn mix (no_hand hΓ) (by kernel_rfl) trivial ?_
  refine then_normal ?_
  refine awp_seq ?_
  refine awp_region (rs := []) (cs := []) (live := [2]) (names := []) (st' := (⟨[(2, (.bool (bif (bif (bif (bif ((a_bits : Int) == (1 : Int)) then true else ((a_bits : Int) == (8 : Int))) then true else ((a_bits : Int) == (16 : Int))) then true else ((a_bits : Int) == (32 : Int))) then true else ((a_bits : Int) == (64 : Int)))))], []⟩ : St)) (obs := [((((a_bits : Int) == (1 : Int)) == false) = true → (((a_bits : Int) == (1 : Int)) == false) = true), (((a_bits : Int) == (1 : Int)) = false → (((a_bits : Int) == (1 : Int)) == false) = true), (((bif ((a_bits : Int) == (1 : Int)) then true else ((a_bits : Int) == (8 : Int))) == false) = true → ((bif ((a_bits : Int) == (1 : Int)) then true else ((a_bits : Int) == (8 : Int))) == false) = true), ((bif ((a_bits : Int) == (1 : Int)) then true else ((a_bits : Int) == (8 : Int))) = false → ((bif ((a_bits : Int) == (1 : Int)) then true else ((a_bits : Int) == (8 : Int))) == false) = true), (((bif (bif ((a_bits : Int) == (1 : Int)) then true else ((a_bits : Int) == (8 : Int))) then true else ((a_bits : Int) == (16 : Int))) == false) = true → ((bif (bif ((a_bits : Int) == (1 : Int)) then true else ((a_bits : Int) == (8 : Int))) then true else ((a_bits : Int) == (16 : Int))) == false) = true), ((bif (bif ((a_bits : Int) == (1 : Int)) then true else ((a_bits : Int) == (8 : Int))) then true else ((a_bits : Int) == (16 : Int))) = false → ((bif (bif ((a_bits : Int) == (1 : Int)) then true else ((a_bits : Int) == (8 : Int))) then true else ((a_bits : Int) == (16 : Int))) == false) = true), (((bif (bif (bif ((a_bits : Int) == (1 : Int)) then true else ((a_bits : Int) == (8 : Int))) then true else ((a_bits : Int) == (16 : Int))) then true else ((a_bits : Int) == (32 : Int))) == false) = true → ((bif (bif (bif ((a_bits : Int) == (1 : Int)) then true else ((a_bits : Int) == (8 : Int))) then true else ((a_bits : Int) == (16 : Int))) then true else ((a_bits : Int) == (32 : Int))) == false) = true), ((bif (bif (bif ((a_bits : Int) == (1 : Int)) then true else ((a_bits : Int) == (8 : Int))) then true else ((a_bits : Int) == (16 : Int))) then true else ((a_bits : Int) == (32 : Int))) = false → ((bif (bif (bif ((a_bits : Int) == (1 : Int)) then true else ((a_bits : Int) == (8 : Int))) then true else ((a_bits : Int) == (16 : Int))) then true else ((a_bits : Int) == (32 : Int))) == false) = true)]) hn mix (no_hand hΓ) (by kernel_rfl) ⟨(fun hg => hg), (fun hp => by rw [hp]; rfl), (fun hg => hg), (fun hp => by rw [hp]; rfl), (fun hg => hg), (fun hp => by rw [hp]; rfl), (fun hg => hg), (fun hp => by rw [hp]; rfl), trivial⟩ ?_
  refine then_normal ?_
  refine awp_ret ?_
  obtain rfl := Option.some.inj h
  exact ⟨.inl rfl, [], by kernel_rfl⟩

noncomputable def m_lockstepref03_Shape (a_bits : Int) (a_lanes : Int) : Option Bool :=
  ((m_lockstepref01_May a_bits).bind fun x1 => (bif (!x1) then (some false) else (bif ((a_lanes : Int) == (1 : Int)) then (some true) else (some (bif (bif (bif (bif (bif ((a_lanes : Int) == (2 : Int)) then true else ((a_lanes : Int) == (4 : Int))) then true else ((a_lanes : Int) == (8 : Int))) then true else ((a_lanes : Int) == (16 : Int))) then (decide (((1 : Int) : Int) < a_bits)) else false) then (decide (((w64 (a_bits * a_lanes)) : Int) ≤ (128 : Int))) else false)))))
theorem ok_lockstepref03_Shape (a_bits : Int) (a_lanes : Int) (r : Bool) (h : m_lockstepref03_Shape a_bits a_lanes = some r) : Spec Try.prog 18 [(.int .i64 a_bits), (.int .i64 a_lanes)] [] (.bool r) [] := by
  refine spec_of_awp (fn := Try.f18) Try.func18 rfl rfl (by kernel_rfl) (fun Γ hn hΓ => ?_)
  have hn : Γ.n = 34 := hn
  unfold m_lockstepref03_Shape at h
  refine awp_seq ?_
  refine awp_region (rs := []) (cs := []) (live := [0, 1]) (names := []) (st' := (⟨[(0, (.int .i64 a_bits)), (1, (.int .i64 a_lanes))], []⟩ : St)) (obs := []) hn mix (no_hand hΓ) (by kernel_rfl) trivial ?_
  refine then_normal ?_
  refine awp_seq ?_
  refine awp_seq ?_
  obtain ⟨x1, hx1, h⟩ := bind_some h
  refine awp_region (rs := [⟨[], [], (.bool x1), []⟩]) (cs := []) (live := [0, 1, 7]) (names := []) (st' := (⟨[(0, (.int .i64 a_bits)), (1, (.int .i64 a_lanes)), (7, (.bool (!x1)))], []⟩ : St)) (obs := [(Spec Try.prog 34 [(.int .i64 a_bits)] [] (.bool x1) [])]) hn mix (no_hand hΓ) (by kernel_rfl) ⟨(ok_lockstepref01_May a_bits x1 hx1), trivial⟩ ?_
  refine then_normal ?_
  refine awp_cond (!x1) (by kernel_rfl) (fun hb => ?_) (fun hb => ?_)
  · replace h := cond_t hb h
    clear hb
    refine awp_seq ?_
    refine awp_region (rs := []) (cs := []) (live := [4]) (names := []) (st' := (⟨[(4, (.bool false))], []⟩ : St)) (obs := []) hn mix (no_hand hΓ) (by kernel_rfl) trivial ?_
    refine then_normal ?_
    refine awp_ret ?_
    refine then_ret ?_
    obtain rfl := Option.some.inj h
    exact ⟨.inl rfl, [], by kernel_rfl⟩
  · replace h := cond_f hb h
    clear hb
    refine awp_skip ?_
    refine then_normal ?_
    refine awp_seq ?_
    refine awp_seq ?_
    refine awp_region (rs := []) (cs := []) (live := [0, 1, 9]) (names := []) (st' := (⟨[(0, (.int .i64 a_bits)), (1, (.int .i64 a_lanes)), (9, (.bool ((a_lanes : Int) == (1 : Int))))], []⟩ : St)) (obs := []) hn mix (no_hand hΓ) (by kernel_rfl) trivial ?_
    refine then_normal ?_
    refine awp_cond ((a_lanes : Int) == (1 : Int)) (by kernel_rfl) (fun hb => ?_) (fun hb => ?_)
    · replace h := cond_t hb h
      clear hb
      refine awp_seq ?_
      refine awp_region (rs := []) (cs := []) (live := [4]) (names := []) (st' := (⟨[(4, (.bool true))], []⟩ : St)) (obs := []) hn mix (no_hand hΓ) (by kernel_rfl) trivial ?_
      refine then_normal ?_
      refine awp_ret ?_
      refine then_ret ?_
      obtain rfl := Option.some.inj h
      exact ⟨.inl rfl, [], by kernel_rfl⟩
    · replace h := cond_f hb h
      clear hb
      refine awp_skip ?_
      refine then_normal ?_
      refine awp_seq ?_
      refine awp_region (rs := []) (cs := []) (live := [4]) (names := []) (st' := (⟨[(4, (.bool (bif (bif (bif (bif (bif ((a_lanes : Int) == (2 : Int)) then true else ((a_lanes : Int) == (4 : Int))) then true else ((a_lanes : Int) == (8 : Int))) then true else ((a_lanes : Int) == (16 : Int))) then (decide (((1 : Int) : Int) < a_bits)) else false) then (decide (((w64 (a_bits * a_lanes)) : Int) ≤ (128 : Int))) else false)))], []⟩ : St)) (obs := [((((a_lanes : Int) == (2 : Int)) == false) = true → (((a_lanes : Int) == (2 : Int)) == false) = true), (((a_lanes : Int) == (2 : Int)) = false → (((a_lanes : Int) == (2 : Int)) == false) = true), (((bif ((a_lanes : Int) == (2 : Int)) then true else ((a_lanes : Int) == (4 : Int))) == false) = true → ((bif ((a_lanes : Int) == (2 : Int)) then true else ((a_lanes : Int) == (4 : Int))) == false) = true), ((bif ((a_lanes : Int) == (2 : Int)) then true else ((a_lanes : Int) == (4 : Int))) = false → ((bif ((a_lanes : Int) == (2 : Int)) then true else ((a_lanes : Int) == (4 : Int))) == false) = true), (((bif (bif ((a_lanes : Int) == (2 : Int)) then true else ((a_lanes : Int) == (4 : Int))) then true else ((a_lanes : Int) == (8 : Int))) == false) = true → ((bif (bif ((a_lanes : Int) == (2 : Int)) then true else ((a_lanes : Int) == (4 : Int))) then true else ((a_lanes : Int) == (8 : Int))) == false) = true), ((bif (bif ((a_lanes : Int) == (2 : Int)) then true else ((a_lanes : Int) == (4 : Int))) then true else ((a_lanes : Int) == (8 : Int))) = false → ((bif (bif ((a_lanes : Int) == (2 : Int)) then true else ((a_lanes : Int) == (4 : Int))) then true else ((a_lanes : Int) == (8 : Int))) == false) = true), (((bif (bif (bif ((a_lanes : Int) == (2 : Int)) then true else ((a_lanes : Int) == (4 : Int))) then true else ((a_lanes : Int) == (8 : Int))) then true else ((a_lanes : Int) == (16 : Int))) == true) = true → ((bif (bif (bif ((a_lanes : Int) == (2 : Int)) then true else ((a_lanes : Int) == (4 : Int))) then true else ((a_lanes : Int) == (8 : Int))) then true else ((a_lanes : Int) == (16 : Int))) == true) = true), ((bif (bif (bif ((a_lanes : Int) == (2 : Int)) then true else ((a_lanes : Int) == (4 : Int))) then true else ((a_lanes : Int) == (8 : Int))) then true else ((a_lanes : Int) == (16 : Int))) = true → ((bif (bif (bif ((a_lanes : Int) == (2 : Int)) then true else ((a_lanes : Int) == (4 : Int))) then true else ((a_lanes : Int) == (8 : Int))) then true else ((a_lanes : Int) == (16 : Int))) == true) = true), (((bif (bif (bif (bif ((a_lanes : Int) == (2 : Int)) then true else ((a_lanes : Int) == (4 : Int))) then true else ((a_lanes : Int) == (8 : Int))) then true else ((a_lanes : Int) == (16 : Int))) then (decide (((1 : Int) : Int) < a_bits)) else false) == true) = true → ((bif (bif (bif (bif ((a_lanes : Int) == (2 : Int)) then true else ((a_lanes : Int) == (4 : Int))) then true else ((a_lanes : Int) == (8 : Int))) then true else ((a_lanes : Int) == (16 : Int))) then (decide (((1 : Int) : Int) < a_bits)) else false) == true) = true), (((bif (bif (bif (bif ((a_lanes : Int) == (2 : Int)) then true else ((a_lanes : Int) == (4 : Int))) then true else ((a_lanes : Int) == (8 : Int))) then true else ((a_lanes : Int) == (16 : Int))) then (decide (((1 : Int) : Int) < a_bits)) else false) == true) = true → ((bif (bif (bif (bif ((a_lanes : Int) == (2 : Int)) then true else ((a_lanes : Int) == (4 : Int))) then true else ((a_lanes : Int) == (8 : Int))) then true else ((a_lanes : Int) == (16 : Int))) then (decide (((1 : Int) : Int) < a_bits)) else false) == true) = true), (((bif (bif (bif (bif ((a_lanes : Int) == (2 : Int)) then true else ((a_lanes : Int) == (4 : Int))) then true else ((a_lanes : Int) == (8 : Int))) then true else ((a_lanes : Int) == (16 : Int))) then (decide (((1 : Int) : Int) < a_bits)) else false) == true) = true → ((bif (bif (bif (bif ((a_lanes : Int) == (2 : Int)) then true else ((a_lanes : Int) == (4 : Int))) then true else ((a_lanes : Int) == (8 : Int))) then true else ((a_lanes : Int) == (16 : Int))) then (decide (((1 : Int) : Int) < a_bits)) else false) == true) = true), ((bif (bif (bif (bif ((a_lanes : Int) == (2 : Int)) then true else ((a_lanes : Int) == (4 : Int))) then true else ((a_lanes : Int) == (8 : Int))) then true else ((a_lanes : Int) == (16 : Int))) then (decide (((1 : Int) : Int) < a_bits)) else false) = true → ((bif (bif (bif (bif ((a_lanes : Int) == (2 : Int)) then true else ((a_lanes : Int) == (4 : Int))) then true else ((a_lanes : Int) == (8 : Int))) then true else ((a_lanes : Int) == (16 : Int))) then (decide (((1 : Int) : Int) < a_bits)) else false) == true) = true)]) hn mix (no_hand hΓ) (by kernel_rfl) ⟨(fun hg => hg), (fun hp => by rw [hp]; rfl), (fun hg => hg), (fun hp => by rw [hp]; rfl), (fun hg => hg), (fun hp => by rw [hp]; rfl), (fun hg => hg), (fun hp => by rw [hp]; rfl), (fun hg => hg), (fun hg => hg), (fun hg => hg), (fun hp => by rw [hp]; rfl), trivial⟩ ?_
      refine then_normal ?_
      refine awp_ret ?_
      obtain rfl := Option.some.inj h
      exact ⟨.inl rfl, [], by kernel_rfl⟩

noncomputable def m_lockstepref03_Args (a_o : TOp) : Option Int :=
  (bif ((a_o.Kind : Int) == (0 : Int)) then (some (0 : Int)) else (Option.bind (α := Bool) (bif ((a_o.Kind : Int) == (1 : Int)) then (some (((a_o.Kind : Int) == (1 : Int)))) else (bif ((a_o.Kind : Int) == (2 : Int)) then (some (((a_o.Kind : Int) == (2 : Int)))) else (bif ((a_o.Kind : Int) == (3 : Int)) then (some (((a_o.Kind : Int) == (3 : Int)))) else (bif ((a_o.Kind : Int) == (4 : Int)) then (some (((a_o.Kind : Int) == (4 : Int)))) else (bif ((a_o.Kind : Int) == (5 : Int)) then (some (((a_o.Kind : Int) == (5 : Int)))) else (bif ((a_o.Kind : Int) == (6 : Int)) then (some (((a_o.Kind : Int) == (6 : Int)))) else (bif ((a_o.Kind : Int) == (7 : Int)) then (some (((a_o.Kind : Int) == (7 : Int)))) else (bif ((a_o.Kind : Int) == (8 : Int)) then (some (((a_o.Kind : Int) == (8 : Int)))) else (bif ((a_o.Kind : Int) == (9 : Int)) then (some (((a_o.Kind : Int) == (9 : Int)))) else (bif ((a_o.Kind : Int) == (10 : Int)) then (some (((a_o.Kind : Int) == (10 : Int)))) else (bif ((a_o.Kind : Int) == (11 : Int)) then (some (((a_o.Kind : Int) == (11 : Int)))) else (bif ((a_o.Kind : Int) == (12 : Int)) then (some (((a_o.Kind : Int) == (12 : Int)))) else (some (((a_o.Kind : Int) == (17 : Int)))))))))))))))) (fun x2 => ((bif x2 then (some (2 : Int)) else (Option.bind (α := Bool) (bif ((a_o.Kind : Int) == (13 : Int)) then (some (((a_o.Kind : Int) == (13 : Int)))) else (bif ((a_o.Kind : Int) == (18 : Int)) then (some (((a_o.Kind : Int) == (18 : Int)))) else (some (((a_o.Kind : Int) == (19 : Int)))))) (fun x5 => ((bif x5 then (some (3 : Int)) else (Option.bind (α := Bool) (bif ((a_o.Kind : Int) == (14 : Int)) then (some (((a_o.Kind : Int) == (14 : Int)))) else (bif ((a_o.Kind : Int) == (15 : Int)) then (some (((a_o.Kind : Int) == (15 : Int)))) else (bif ((a_o.Kind : Int) == (16 : Int)) then (some (((a_o.Kind : Int) == (16 : Int)))) else (some (((a_o.Kind : Int) == (22 : Int))))))) (fun x8 => ((bif x8 then (some (1 : Int)) else (bif ((a_o.Kind : Int) == (20 : Int)) then (some (4 : Int)) else (bif ((a_o.Kind : Int) == (21 : Int)) then (some a_o.Lanes) else (some (-1 : Int)))))))))))))))))
theorem ok_lockstepref03_Args (a_o : TOp) (r : Int) (h : m_lockstepref03_Args a_o = some r) : Spec Try.prog 29 [(.agg (eTOp a_o))] [] (.int .i64 r) [] := by
  refine spec_of_awp (fn := Try.f29) Try.func29 rfl rfl (by kernel_rfl) (fun Γ hn hΓ => ?_)
  have hn : Γ.n = 36 := hn
  unfold m_lockstepref03_Args at h
  refine awp_seq ?_
  refine awp_region (rs := []) (cs := []) (live := [1]) (names := [1]) (st' := (⟨[(1, (.ptr 1 0))], [(1, .row [(.int .i64 a_o.Kind), (.int .i64 a_o.Bits), (.int .i64 a_o.Lanes), (.int .i64 a_o.Dst), (AV.list 1 eI64 (0 : Int) a_o.Args .none), (.int .u64 a_o.Imm)])]⟩ : St)) (obs := []) hn mix (no_hand hΓ) (by kernel_rfl) trivial ?_
  refine then_normal ?_
  refine awp_seq ?_
  refine awp_seq ?_
  refine awp_region (rs := []) (cs := []) (live := [1, 4]) (names := [1]) (st' := (⟨[(1, (.ptr 1 0)), (4, (.int .i64 a_o.Kind))], [(1, .row [(.int .i64 a_o.Kind), (.int .i64 a_o.Bits), (.int .i64 a_o.Lanes), (.int .i64 a_o.Dst), (AV.list 1 eI64 (0 : Int) a_o.Args .none), (.int .u64 a_o.Imm)])]⟩ : St)) (obs := [(0 < List.length (α := AV) [(.int .i64 a_o.Kind), (.int .i64 a_o.Bits), (.int .i64 a_o.Lanes), (.int .i64 a_o.Dst), (AV.list 1 eI64 (0 : Int) a_o.Args .none), (.int .u64 a_o.Imm)])]) hn mix (no_hand hΓ) (by kernel_rfl) ⟨(Nat.le_of_ble_eq_true rfl), trivial⟩ ?_
  refine then_normal ?_
  refine awp_block ?_
  refine awp_seq ?_
  refine awp_region (rs := []) (cs := []) (live := [1, 4, 5]) (names := [1]) (st' := (⟨[(1, (.ptr 1 0)), (4, (.int .i64 a_o.Kind)), (5, (.bool ((a_o.Kind : Int) == (0 : Int))))], [(1, .row [(.int .i64 a_o.Kind), (.int .i64 a_o.Bits), (.int .i64 a_o.Lanes), (.int .i64 a_o.Dst), (AV.list 1 eI64 (0 : Int) a_o.Args .none), (.int .u64 a_o.Imm)])]⟩ : St)) (obs := []) hn mix (no_hand hΓ) (by kernel_rfl) trivial ?_
  refine then_normal ?_
  refine awp_cond ((a_o.Kind : Int) == (0 : Int)) (by kernel_rfl) (fun hb => ?_) (fun hb => ?_)
  · replace h := cond_t hb h
    clear hb
    refine awp_seq ?_
    refine awp_region (rs := []) (cs := []) (live := [2]) (names := []) (st' := (⟨[(2, (.int .i64 (0 : Int)))], []⟩ : St)) (obs := []) hn mix (no_hand hΓ) (by kernel_rfl) trivial ?_
    refine then_normal ?_
    refine awp_ret ?_
    refine block_ret ?_
    refine then_ret ?_
    obtain rfl := Option.some.inj h
    exact ⟨.inl rfl, [], by kernel_rfl⟩
  · replace h := cond_f hb h
    clear hb
    refine awp_seq ?_
    obtain ⟨x2, hx2, h⟩ := bind_some h
    refine awp_join (fun (b1 : Bool) (e : Exit) (st : St) => e = .normal ∧ Le Γ st (⟨[(1, (.ptr 1 0)), (4, (.int .i64 a_o.Kind)), (7, (.bool b1))], [(1, .row [(.int .i64 a_o.Kind), (.int .i64 a_o.Bits), (.int .i64 a_o.Lanes), (.int .i64 a_o.Dst), (AV.list 1 eI64 (0 : Int) a_o.Args .none), (.int .u64 a_o.Imm)])]⟩ : St)) hx2 ?_ ?_
    · clear h hx2
      intro y h
      refine awp_seq ?_
      refine awp_region (rs := []) (cs := []) (live := [1, 4, 7]) (names := [1]) (st' := (⟨[(1, (.ptr 1 0)), (4, (.int .i64 a_o.Kind)), (7, (.bool ((a_o.Kind : Int) == (1 : Int))))], [(1, .row [(.int .i64 a_o.Kind), (.int .i64 a_o.Bits), (.int .i64 a_o.Lanes), (.int .i64 a_o.Dst), (AV.list 1 eI64 (0 : Int) a_o.Args .none), (.int .u64 a_o.Imm)])]⟩ : St)) (obs := []) hn mix (no_hand hΓ) (by kernel_rfl) trivial ?_
      refine then_normal ?_
      refine awp_cond ((a_o.Kind : Int) == (1 : Int)) (by kernel_rfl) (fun hb => ?_) (fun hb => ?_)
      · replace h := cond_t hb h
        clear hb
        refine awp_skip ?_
        obtain rfl := Option.some.inj h
        exact ⟨rfl, Le.refl _ _⟩
      · replace h := cond_f hb h
        clear hb
        refine awp_seq ?_
        refine awp_region (rs := []) (cs := []) (live := [1, 4, 7]) (names := [1]) (st' := (⟨[(1, (.ptr 1 0)), (4, (.int .i64 a_o.Kind)), (7, (.bool ((a_o.Kind : Int) == (2 : Int))))], [(1, .row [(.int .i64 a_o.Kind), (.int .i64 a_o.Bits), (.int .i64 a_o.Lanes), (.int .i64 a_o.Dst), (AV.list 1 eI64 (0 : Int) a_o.Args .none), (.int .u64 a_o.Imm)])]⟩ : St)) (obs := []) hn mix (no_hand hΓ) (by kernel_rfl) trivial ?_
        refine then_normal ?_
        refine awp_cond ((a_o.Kind : Int) == (2 : Int)) (by kernel_rfl) (fun hb => ?_) (fun hb => ?_)
        · replace h := cond_t hb h
          clear hb
          refine awp_skip ?_
          obtain rfl := Option.some.inj h
          exact ⟨rfl, Le.refl _ _⟩
        · replace h := cond_f hb h
          clear hb
          refine awp_seq ?_
          refine awp_region (rs := []) (cs := []) (live := [1, 4, 7]) (names := [1]) (st' := (⟨[(1, (.ptr 1 0)), (4, (.int .i64 a_o.Kind)), (7, (.bool ((a_o.Kind : Int) == (3 : Int))))], [(1, .row [(.int .i64 a_o.Kind), (.int .i64 a_o.Bits), (.int .i64 a_o.Lanes), (.int .i64 a_o.Dst), (AV.list 1 eI64 (0 : Int) a_o.Args .none), (.int .u64 a_o.Imm)])]⟩ : St)) (obs := []) hn mix (no_hand hΓ) (by kernel_rfl) trivial ?_
          refine then_normal ?_
          refine awp_cond ((a_o.Kind : Int) == (3 : Int)) (by kernel_rfl) (fun hb => ?_) (fun hb => ?_)
          · replace h := cond_t hb h
            clear hb
            refine awp_skip ?_
            obtain rfl := Option.some.inj h
            exact ⟨rfl, Le.refl _ _⟩
          · replace h := cond_f hb h
            clear hb
            refine awp_seq ?_
            refine awp_region (rs := []) (cs := []) (live := [1, 4, 7]) (names := [1]) (st' := (⟨[(1, (.ptr 1 0)), (4, (.int .i64 a_o.Kind)), (7, (.bool ((a_o.Kind : Int) == (4 : Int))))], [(1, .row [(.int .i64 a_o.Kind), (.int .i64 a_o.Bits), (.int .i64 a_o.Lanes), (.int .i64 a_o.Dst), (AV.list 1 eI64 (0 : Int) a_o.Args .none), (.int .u64 a_o.Imm)])]⟩ : St)) (obs := []) hn mix (no_hand hΓ) (by kernel_rfl) trivial ?_
            refine then_normal ?_
            refine awp_cond ((a_o.Kind : Int) == (4 : Int)) (by kernel_rfl) (fun hb => ?_) (fun hb => ?_)
            · replace h := cond_t hb h
              clear hb
              refine awp_skip ?_
              obtain rfl := Option.some.inj h
              exact ⟨rfl, Le.refl _ _⟩
            · replace h := cond_f hb h
              clear hb
              refine awp_seq ?_
              refine awp_region (rs := []) (cs := []) (live := [1, 4, 7]) (names := [1]) (st' := (⟨[(1, (.ptr 1 0)), (4, (.int .i64 a_o.Kind)), (7, (.bool ((a_o.Kind : Int) == (5 : Int))))], [(1, .row [(.int .i64 a_o.Kind), (.int .i64 a_o.Bits), (.int .i64 a_o.Lanes), (.int .i64 a_o.Dst), (AV.list 1 eI64 (0 : Int) a_o.Args .none), (.int .u64 a_o.Imm)])]⟩ : St)) (obs := []) hn mix (no_hand hΓ) (by kernel_rfl) trivial ?_
              refine then_normal ?_
              refine awp_cond ((a_o.Kind : Int) == (5 : Int)) (by kernel_rfl) (fun hb => ?_) (fun hb => ?_)
              · replace h := cond_t hb h
                clear hb
                refine awp_skip ?_
                obtain rfl := Option.some.inj h
                exact ⟨rfl, Le.refl _ _⟩
              · replace h := cond_f hb h
                clear hb
                refine awp_seq ?_
                refine awp_region (rs := []) (cs := []) (live := [1, 4, 7]) (names := [1]) (st' := (⟨[(1, (.ptr 1 0)), (4, (.int .i64 a_o.Kind)), (7, (.bool ((a_o.Kind : Int) == (6 : Int))))], [(1, .row [(.int .i64 a_o.Kind), (.int .i64 a_o.Bits), (.int .i64 a_o.Lanes), (.int .i64 a_o.Dst), (AV.list 1 eI64 (0 : Int) a_o.Args .none), (.int .u64 a_o.Imm)])]⟩ : St)) (obs := []) hn mix (no_hand hΓ) (by kernel_rfl) trivial ?_
                refine then_normal ?_
                refine awp_cond ((a_o.Kind : Int) == (6 : Int)) (by kernel_rfl) (fun hb => ?_) (fun hb => ?_)
                · replace h := cond_t hb h
                  clear hb
                  refine awp_skip ?_
                  obtain rfl := Option.some.inj h
                  exact ⟨rfl, Le.refl _ _⟩
                · replace h := cond_f hb h
                  clear hb
                  refine awp_seq ?_
                  refine awp_region (rs := []) (cs := []) (live := [1, 4, 7]) (names := [1]) (st' := (⟨[(1, (.ptr 1 0)), (4, (.int .i64 a_o.Kind)), (7, (.bool ((a_o.Kind : Int) == (7 : Int))))], [(1, .row [(.int .i64 a_o.Kind), (.int .i64 a_o.Bits), (.int .i64 a_o.Lanes), (.int .i64 a_o.Dst), (AV.list 1 eI64 (0 : Int) a_o.Args .none), (.int .u64 a_o.Imm)])]⟩ : St)) (obs := []) hn mix (no_hand hΓ) (by kernel_rfl) trivial ?_
                  refine then_normal ?_
                  refine awp_cond ((a_o.Kind : Int) == (7 : Int)) (by kernel_rfl) (fun hb => ?_) (fun hb => ?_)
                  · replace h := cond_t hb h
                    clear hb
                    refine awp_skip ?_
                    obtain rfl := Option.some.inj h
                    exact ⟨rfl, Le.refl _ _⟩
                  · replace h := cond_f hb h
                    clear hb
                    refine awp_seq ?_
                    refine awp_region (rs := []) (cs := []) (live := [1, 4, 7]) (names := [1]) (st' := (⟨[(1, (.ptr 1 0)), (4, (.int .i64 a_o.Kind)), (7, (.bool ((a_o.Kind : Int) == (8 : Int))))], [(1, .row [(.int .i64 a_o.Kind), (.int .i64 a_o.Bits), (.int .i64 a_o.Lanes), (.int .i64 a_o.Dst), (AV.list 1 eI64 (0 : Int) a_o.Args .none), (.int .u64 a_o.Imm)])]⟩ : St)) (obs := []) hn mix (no_hand hΓ) (by kernel_rfl) trivial ?_
                    refine then_normal ?_
                    refine awp_cond ((a_o.Kind : Int) == (8 : Int)) (by kernel_rfl) (fun hb => ?_) (fun hb => ?_)
                    · replace h := cond_t hb h
                      clear hb
                      refine awp_skip ?_
                      obtain rfl := Option.some.inj h
                      exact ⟨rfl, Le.refl _ _⟩
                    · replace h := cond_f hb h
                      clear hb
                      refine awp_seq ?_
                      refine awp_region (rs := []) (cs := []) (live := [1, 4, 7]) (names := [1]) (st' := (⟨[(1, (.ptr 1 0)), (4, (.int .i64 a_o.Kind)), (7, (.bool ((a_o.Kind : Int) == (9 : Int))))], [(1, .row [(.int .i64 a_o.Kind), (.int .i64 a_o.Bits), (.int .i64 a_o.Lanes), (.int .i64 a_o.Dst), (AV.list 1 eI64 (0 : Int) a_o.Args .none), (.int .u64 a_o.Imm)])]⟩ : St)) (obs := []) hn mix (no_hand hΓ) (by kernel_rfl) trivial ?_
                      refine then_normal ?_
                      refine awp_cond ((a_o.Kind : Int) == (9 : Int)) (by kernel_rfl) (fun hb => ?_) (fun hb => ?_)
                      · replace h := cond_t hb h
                        clear hb
                        refine awp_skip ?_
                        obtain rfl := Option.some.inj h
                        exact ⟨rfl, Le.refl _ _⟩
                      · replace h := cond_f hb h
                        clear hb
                        refine awp_seq ?_
                        refine awp_region (rs := []) (cs := []) (live := [1, 4, 7]) (names := [1]) (st' := (⟨[(1, (.ptr 1 0)), (4, (.int .i64 a_o.Kind)), (7, (.bool ((a_o.Kind : Int) == (10 : Int))))], [(1, .row [(.int .i64 a_o.Kind), (.int .i64 a_o.Bits), (.int .i64 a_o.Lanes), (.int .i64 a_o.Dst), (AV.list 1 eI64 (0 : Int) a_o.Args .none), (.int .u64 a_o.Imm)])]⟩ : St)) (obs := []) hn mix (no_hand hΓ) (by kernel_rfl) trivial ?_
                        refine then_normal ?_
                        refine awp_cond ((a_o.Kind : Int) == (10 : Int)) (by kernel_rfl) (fun hb => ?_) (fun hb => ?_)
                        · replace h := cond_t hb h
                          clear hb
                          refine awp_skip ?_
                          obtain rfl := Option.some.inj h
                          exact ⟨rfl, Le.refl _ _⟩
                        · replace h := cond_f hb h
                          clear hb
                          refine awp_seq ?_
                          refine awp_region (rs := []) (cs := []) (live := [1, 4, 7]) (names := [1]) (st' := (⟨[(1, (.ptr 1 0)), (4, (.int .i64 a_o.Kind)), (7, (.bool ((a_o.Kind : Int) == (11 : Int))))], [(1, .row [(.int .i64 a_o.Kind), (.int .i64 a_o.Bits), (.int .i64 a_o.Lanes), (.int .i64 a_o.Dst), (AV.list 1 eI64 (0 : Int) a_o.Args .none), (.int .u64 a_o.Imm)])]⟩ : St)) (obs := []) hn mix (no_hand hΓ) (by kernel_rfl) trivial ?_
                          refine then_normal ?_
                          refine awp_cond ((a_o.Kind : Int) == (11 : Int)) (by kernel_rfl) (fun hb => ?_) (fun hb => ?_)
                          · replace h := cond_t hb h
                            clear hb
                            refine awp_skip ?_
                            obtain rfl := Option.some.inj h
                            exact ⟨rfl, Le.refl _ _⟩
                          · replace h := cond_f hb h
                            clear hb
                            refine awp_seq ?_
                            refine awp_region (rs := []) (cs := []) (live := [1, 4, 7]) (names := [1]) (st' := (⟨[(1, (.ptr 1 0)), (4, (.int .i64 a_o.Kind)), (7, (.bool ((a_o.Kind : Int) == (12 : Int))))], [(1, .row [(.int .i64 a_o.Kind), (.int .i64 a_o.Bits), (.int .i64 a_o.Lanes), (.int .i64 a_o.Dst), (AV.list 1 eI64 (0 : Int) a_o.Args .none), (.int .u64 a_o.Imm)])]⟩ : St)) (obs := []) hn mix (no_hand hΓ) (by kernel_rfl) trivial ?_
                            refine then_normal ?_
                            refine awp_cond ((a_o.Kind : Int) == (12 : Int)) (by kernel_rfl) (fun hb => ?_) (fun hb => ?_)
                            · replace h := cond_t hb h
                              clear hb
                              refine awp_skip ?_
                              obtain rfl := Option.some.inj h
                              exact ⟨rfl, Le.refl _ _⟩
                            · replace h := cond_f hb h
                              clear hb
                              refine awp_region (rs := []) (cs := []) (live := [1, 4, 7]) (names := [1]) (st' := (⟨[(1, (.ptr 1 0)), (4, (.int .i64 a_o.Kind)), (7, (.bool ((a_o.Kind : Int) == (17 : Int))))], [(1, .row [(.int .i64 a_o.Kind), (.int .i64 a_o.Bits), (.int .i64 a_o.Lanes), (.int .i64 a_o.Dst), (AV.list 1 eI64 (0 : Int) a_o.Args .none), (.int .u64 a_o.Imm)])]⟩ : St)) (obs := []) hn mix (no_hand hΓ) (by kernel_rfl) trivial ?_
                              obtain rfl := Option.some.inj h
                              exact ⟨rfl, Le.refl _ _⟩
    · clear hx2
      rintro e st' ⟨rfl, hl3⟩
      refine then_normal ?_
      refine awp_le hl3 ?_
      refine awp_cond x2 (by kernel_rfl) (fun hb => ?_) (fun hb => ?_)
      · replace h := cond_t hb h
        clear hb
        refine awp_seq ?_
        refine awp_region (rs := []) (cs := []) (live := [2]) (names := []) (st' := (⟨[(2, (.int .i64 (2 : Int)))], []⟩ : St)) (obs := []) hn mix (no_hand hΓ) (by kernel_rfl) trivial ?_
        refine then_normal ?_
        refine awp_ret ?_
        refine block_ret ?_
        refine then_ret ?_
        obtain rfl := Option.some.inj h
        exact ⟨.inl rfl, [], by kernel_rfl⟩
      · replace h := cond_f hb h
        clear hb
        refine awp_seq ?_
        obtain ⟨x5, hx5, h⟩ := bind_some h
        refine awp_join (fun (b4 : Bool) (e : Exit) (st : St) => e = .normal ∧ Le Γ st (⟨[(1, (.ptr 1 0)), (4, (.int .i64 a_o.Kind)), (21, (.bool b4))], [(1, .row [(.int .i64 a_o.Kind), (.int .i64 a_o.Bits), (.int .i64 a_o.Lanes), (.int .i64 a_o.Dst), (AV.list 1 eI64 (0 : Int) a_o.Args .none), (.int .u64 a_o.Imm)])]⟩ : St)) hx5 ?_ ?_
        · clear h hx5
          intro y h
          refine awp_seq ?_
          refine awp_region (rs := []) (cs := []) (live := [1, 4, 21]) (names := [1]) (st' := (⟨[(1, (.ptr 1 0)), (4, (.int .i64 a_o.Kind)), (21, (.bool ((a_o.Kind : Int) == (13 : Int))))], [(1, .row [(.int .i64 a_o.Kind), (.int .i64 a_o.Bits), (.int .i64 a_o.Lanes), (.int .i64 a_o.Dst), (AV.list 1 eI64 (0 : Int) a_o.Args .none), (.int .u64 a_o.Imm)])]⟩ : St)) (obs := []) hn mix (no_hand hΓ) (by kernel_rfl) trivial ?_
          refine then_normal ?_
          refine awp_cond ((a_o.Kind : Int) == (13 : Int)) (by kernel_rfl) (fun hb => ?_) (fun hb => ?_)
          · replace h := cond_t hb h
            clear hb
            refine awp_skip ?_
            obtain rfl := Option.some.inj h
            exact ⟨rfl, Le.refl _ _⟩
          · replace h := cond_f hb h
            clear hb
            refine awp_seq ?_
            refine awp_region (rs := []) (cs := []) (live := [1, 4, 21]) (names := [1]) (st' := (⟨[(1, (.ptr 1 0)), (4, (.int .i64 a_o.Kind)), (21, (.bool ((a_o.Kind : Int) == (18 : Int))))], [(1, .row [(.int .i64 a_o.Kind), (.int .i64 a_o.Bits), (.int .i64 a_o.Lanes), (.int .i64 a_o.Dst), (AV.list 1 eI64 (0 : Int) a_o.Args .none), (.int .u64 a_o.Imm)])]⟩ : St)) (obs := []) hn mix (no_hand hΓ) (by kernel_rfl) trivial ?_
            refine then_normal ?_
            refine awp_cond ((a_o.Kind : Int) == (18 : Int)) (by kernel_rfl) (fun hb => ?_) (fun hb => ?_)
            · replace h := cond_t hb h
              clear hb
              refine awp_skip ?_
              obtain rfl := Option.some.inj h
              exact ⟨rfl, Le.refl _ _⟩
            · replace h := cond_f hb h
              clear hb
              refine awp_region (rs := []) (cs := []) (live := [1, 4, 21]) (names := [1]) (st' := (⟨[(1, (.ptr 1 0)), (4, (.int .i64 a_o.Kind)), (21, (.bool ((a_o.Kind : Int) == (19 : Int))))], [(1, .row [(.int .i64 a_o.Kind), (.int .i64 a_o.Bits), (.int .i64 a_o.Lanes), (.int .i64 a_o.Dst), (AV.list 1 eI64 (0 : Int) a_o.Args .none), (.int .u64 a_o.Imm)])]⟩ : St)) (obs := []) hn mix (no_hand hΓ) (by kernel_rfl) trivial ?_
              obtain rfl := Option.some.inj h
              exact ⟨rfl, Le.refl _ _⟩
        · clear hx5
          rintro e st' ⟨rfl, hl6⟩
          refine then_normal ?_
          refine awp_le hl6 ?_
          refine awp_cond x5 (by kernel_rfl) (fun hb => ?_) (fun hb => ?_)
          · replace h := cond_t hb h
            clear hb
            refine awp_seq ?_
            refine awp_region (rs := []) (cs := []) (live := [2]) (names := []) (st' := (⟨[(2, (.int .i64 (3 : Int)))], []⟩ : St)) (obs := []) hn mix (no_hand hΓ) (by kernel_rfl) trivial ?_
            refine then_normal ?_
            refine awp_ret ?_
            refine block_ret ?_
            refine then_ret ?_
            obtain rfl := Option.some.inj h
            exact ⟨.inl rfl, [], by kernel_rfl⟩
          · replace h := cond_f hb h
            clear hb
            refine awp_seq ?_
            obtain ⟨x8, hx8, h⟩ := bind_some h
            refine awp_join (fun (b7 : Bool) (e : Exit) (st : St) => e = .normal ∧ Le Γ st (⟨[(1, (.ptr 1 0)), (4, (.int .i64 a_o.Kind)), (25, (.bool b7))], [(1, .row [(.int .i64 a_o.Kind), (.int .i64 a_o.Bits), (.int .i64 a_o.Lanes), (.int .i64 a_o.Dst), (AV.list 1 eI64 (0 : Int) a_o.Args .none), (.int .u64 a_o.Imm)])]⟩ : St)) hx8 ?_ ?_
            · clear h hx8
              intro y h
              refine awp_seq ?_
              refine awp_region (rs := []) (cs := []) (live := [1, 4, 25]) (names := [1]) (st' := (⟨[(1, (.ptr 1 0)), (4, (.int .i64 a_o.Kind)), (25, (.bool ((a_o.Kind : Int) == (14 : Int))))], [(1, .row [(.int .i64 a_o.Kind), (.int .i64 a_o.Bits), (.int .i64 a_o.Lanes), (.int .i64 a_o.Dst), (AV.list 1 eI64 (0 : Int) a_o.Args .none), (.int .u64 a_o.Imm)])]⟩ : St)) (obs := []) hn mix (no_hand hΓ) (by kernel_rfl) trivial ?_
              refine then_normal ?_
              refine awp_cond ((a_o.Kind : Int) == (14 : Int)) (by kernel_rfl) (fun hb => ?_) (fun hb => ?_)
              · replace h := cond_t hb h
                clear hb
                refine awp_skip ?_
                obtain rfl := Option.some.inj h
                exact ⟨rfl, Le.refl _ _⟩
              · replace h := cond_f hb h
                clear hb
                refine awp_seq ?_
                refine awp_region (rs := []) (cs := []) (live := [1, 4, 25]) (names := [1]) (st' := (⟨[(1, (.ptr 1 0)), (4, (.int .i64 a_o.Kind)), (25, (.bool ((a_o.Kind : Int) == (15 : Int))))], [(1, .row [(.int .i64 a_o.Kind), (.int .i64 a_o.Bits), (.int .i64 a_o.Lanes), (.int .i64 a_o.Dst), (AV.list 1 eI64 (0 : Int) a_o.Args .none), (.int .u64 a_o.Imm)])]⟩ : St)) (obs := []) hn mix (no_hand hΓ) (by kernel_rfl) trivial ?_
                refine then_normal ?_
                refine awp_cond ((a_o.Kind : Int) == (15 : Int)) (by kernel_rfl) (fun hb => ?_) (fun hb => ?_)
                · replace h := cond_t hb h
                  clear hb
                  refine awp_skip ?_
                  obtain rfl := Option.some.inj h
                  exact ⟨rfl, Le.refl _ _⟩
                · replace h := cond_f hb h
                  clear hb
                  refine awp_seq ?_
                  refine awp_region (rs := []) (cs := []) (live := [1, 4, 25]) (names := [1]) (st' := (⟨[(1, (.ptr 1 0)), (4, (.int .i64 a_o.Kind)), (25, (.bool ((a_o.Kind : Int) == (16 : Int))))], [(1, .row [(.int .i64 a_o.Kind), (.int .i64 a_o.Bits), (.int .i64 a_o.Lanes), (.int .i64 a_o.Dst), (AV.list 1 eI64 (0 : Int) a_o.Args .none), (.int .u64 a_o.Imm)])]⟩ : St)) (obs := []) hn mix (no_hand hΓ) (by kernel_rfl) trivial ?_
                  refine then_normal ?_
                  refine awp_cond ((a_o.Kind : Int) == (16 : Int)) (by kernel_rfl) (fun hb => ?_) (fun hb => ?_)
                  · replace h := cond_t hb h
                    clear hb
                    refine awp_skip ?_
                    obtain rfl := Option.some.inj h
                    exact ⟨rfl, Le.refl _ _⟩
                  · replace h := cond_f hb h
                    clear hb
                    refine awp_region (rs := []) (cs := []) (live := [1, 4, 25]) (names := [1]) (st' := (⟨[(1, (.ptr 1 0)), (4, (.int .i64 a_o.Kind)), (25, (.bool ((a_o.Kind : Int) == (22 : Int))))], [(1, .row [(.int .i64 a_o.Kind), (.int .i64 a_o.Bits), (.int .i64 a_o.Lanes), (.int .i64 a_o.Dst), (AV.list 1 eI64 (0 : Int) a_o.Args .none), (.int .u64 a_o.Imm)])]⟩ : St)) (obs := []) hn mix (no_hand hΓ) (by kernel_rfl) trivial ?_
                    obtain rfl := Option.some.inj h
                    exact ⟨rfl, Le.refl _ _⟩
            · clear hx8
              rintro e st' ⟨rfl, hl9⟩
              refine then_normal ?_
              refine awp_le hl9 ?_
              refine awp_cond x8 (by kernel_rfl) (fun hb => ?_) (fun hb => ?_)
              · replace h := cond_t hb h
                clear hb
                refine awp_seq ?_
                refine awp_region (rs := []) (cs := []) (live := [2]) (names := []) (st' := (⟨[(2, (.int .i64 (1 : Int)))], []⟩ : St)) (obs := []) hn mix (no_hand hΓ) (by kernel_rfl) trivial ?_
                refine then_normal ?_
                refine awp_ret ?_
                refine block_ret ?_
                refine then_ret ?_
                obtain rfl := Option.some.inj h
                exact ⟨.inl rfl, [], by kernel_rfl⟩
              · replace h := cond_f hb h
                clear hb
                refine awp_seq ?_
                refine awp_region (rs := []) (cs := []) (live := [1, 4, 30]) (names := [1]) (st' := (⟨[(1, (.ptr 1 0)), (4, (.int .i64 a_o.Kind)), (30, (.bool ((a_o.Kind : Int) == (20 : Int))))], [(1, .row [(.int .i64 a_o.Kind), (.int .i64 a_o.Bits), (.int .i64 a_o.Lanes), (.int .i64 a_o.Dst), (AV.list 1 eI64 (0 : Int) a_o.Args .none), (.int .u64 a_o.Imm)])]⟩ : St)) (obs := []) hn mix (no_hand hΓ) (by kernel_rfl) trivial ?_
                refine then_normal ?_
                refine awp_cond ((a_o.Kind : Int) == (20 : Int)) (by kernel_rfl) (fun hb => ?_) (fun hb => ?_)
                · replace h := cond_t hb h
                  clear hb
                  refine awp_seq ?_
                  refine awp_region (rs := []) (cs := []) (live := [2]) (names := []) (st' := (⟨[(2, (.int .i64 (4 : Int)))], []⟩ : St)) (obs := []) hn mix (no_hand hΓ) (by kernel_rfl) trivial ?_
                  refine then_normal ?_
                  refine awp_ret ?_
                  refine block_ret ?_
                  refine then_ret ?_
                  obtain rfl := Option.some.inj h
                  exact ⟨.inl rfl, [], by kernel_rfl⟩
                · replace h := cond_f hb h
                  clear hb
                  refine awp_seq ?_
                  refine awp_region (rs := []) (cs := []) (live := [1, 32]) (names := [1]) (st' := (⟨[(1, (.ptr 1 0)), (32, (.bool ((a_o.Kind : Int) == (21 : Int))))], [(1, .row [(.int .i64 a_o.Kind), (.int .i64 a_o.Bits), (.int .i64 a_o.Lanes), (.int .i64 a_o.Dst), (AV.list 1 eI64 (0 : Int) a_o.Args .none), (.int .u64 a_o.Imm)])]⟩ : St)) (obs := []) hn mix (no_hand hΓ) (by kernel_rfl) trivial ?_
                  refine then_normal ?_
                  refine awp_cond ((a_o.Kind : Int) == (21 : Int)) (by kernel_rfl) (fun hb => ?_) (fun hb => ?_)
                  · replace h := cond_t hb h
                    clear hb
                    refine awp_seq ?_
                    refine awp_region (rs := []) (cs := []) (live := [2]) (names := []) (st' := (⟨[(2, (.int .i64 a_o.Lanes))], []⟩ : St)) (obs := [(2 < List.length (α := AV) [(.int .i64 a_o.Kind), (.int .i64 a_o.Bits), (.int .i64 a_o.Lanes), (.int .i64 a_o.Dst), (AV.list 1 eI64 (0 : Int) a_o.Args .none), (.int .u64 a_o.Imm)])]) hn mix (no_hand hΓ) (by kernel_rfl) ⟨(Nat.le_of_ble_eq_true rfl), trivial⟩ ?_
                    refine then_normal ?_
                    refine awp_ret ?_
                    refine block_ret ?_
                    refine then_ret ?_
                    obtain rfl := Option.some.inj h
                    exact ⟨.inl rfl, [], by kernel_rfl⟩
                  · replace h := cond_f hb h
                    clear hb
                    refine awp_skip ?_
                    refine block_normal ?_
                    refine then_normal ?_
                    refine awp_seq ?_
                    refine awp_region (rs := []) (cs := []) (live := [2]) (names := []) (st' := (⟨[(2, (.int .i64 (-1 : Int)))], []⟩ : St)) (obs := []) hn mix (no_hand hΓ) (by kernel_rfl) trivial ?_
                    refine then_normal ?_
                    refine awp_ret ?_
                    obtain rfl := Option.some.inj h
                    exact ⟨.inl rfl, [], by kernel_rfl⟩

noncomputable def m_lockstepref01_Cut (a_v : Int) (a_bits : Int) : Option Int :=
  ((m_lockstepref01_May a_bits).bind fun x1 => (bif (!x1) then (some (0 : Int)) else (bif ((a_bits : Int) == (64 : Int)) then (some a_v) else (chk (0 ≤ (wu64 a_bits)) (chk ((shlV .u64 (1 : Int) (wu64 a_bits)) ≠ 0) (some (Int.tmod a_v (shlV .u64 (1 : Int) (wu64 a_bits)))))))))
theorem ok_lockstepref01_Cut (a_v : Int) (a_bits : Int) (r : Int) (h : m_lockstepref01_Cut a_v a_bits = some r) : Spec Try.prog 40 [(.int .u64 a_v), (.int .i64 a_bits)] [] (.int .u64 r) [] := by
  refine spec_of_awp (fn := Try.f40) Try.func40 rfl rfl (by kernel_rfl) (fun Γ hn hΓ => ?_)
  have hn : Γ.n = 16 := hn
  unfold m_lockstepref01_Cut at h
  refine awp_seq ?_
  refine awp_region (rs := []) (cs := []) (live := [0, 1]) (names := []) (st' := (⟨[(0, (.int .u64 a_v)), (1, (.int .i64 a_bits))], []⟩ : St)) (obs := []) hn mix (no_hand hΓ) (by kernel_rfl) trivial ?_
  refine then_normal ?_
  refine awp_seq ?_
  refine awp_seq ?_
  obtain ⟨x1, hx1, h⟩ := bind_some h
  refine awp_region (rs := [⟨[], [], (.bool x1), []⟩]) (cs := []) (live := [0, 1, 7]) (names := []) (st' := (⟨[(0, (.int .u64 a_v)), (1, (.int .i64 a_bits)), (7, (.bool (!x1)))], []⟩ : St)) (obs := [(Spec Try.prog 34 [(.int .i64 a_bits)] [] (.bool x1) [])]) hn mix (no_hand hΓ) (by kernel_rfl) ⟨(ok_lockstepref01_May a_bits x1 hx1), trivial⟩ ?_
  refine then_normal ?_
  refine awp_cond (!x1) (by kernel_rfl) (fun hb => ?_) (fun hb => ?_)
  · replace h := cond_t hb h
    clear hb
    refine awp_seq ?_
    refine awp_region (rs := []) (cs := []) (live := [4]) (names := []) (st' := (⟨[(4, (.int .u64 (0 : Int)))], []⟩ : St)) (obs := []) hn mix (no_hand hΓ) (by kernel_rfl) trivial ?_
    refine then_normal ?_
    refine awp_ret ?_
    refine then_ret ?_
    obtain rfl := Option.some.inj h
    exact ⟨.inl rfl, [], by kernel_rfl⟩
  · replace h := cond_f hb h
    clear hb
    refine awp_skip ?_
    refine then_normal ?_
    refine awp_seq ?_
    refine awp_seq ?_
    refine awp_region (rs := []) (cs := []) (live := [0, 1, 9]) (names := []) (st' := (⟨[(0, (.int .u64 a_v)), (1, (.int .i64 a_bits)), (9, (.bool ((a_bits : Int) == (64 : Int))))], []⟩ : St)) (obs := []) hn mix (no_hand hΓ) (by kernel_rfl) trivial ?_
    refine then_normal ?_
    refine awp_cond ((a_bits : Int) == (64 : Int)) (by kernel_rfl) (fun hb => ?_) (fun hb => ?_)
    · replace h := cond_t hb h
      clear hb
      refine awp_seq ?_
      refine awp_region (rs := []) (cs := []) (live := [4]) (names := []) (st' := (⟨[(4, (.int .u64 a_v))], []⟩ : St)) (obs := []) hn mix (no_hand hΓ) (by kernel_rfl) trivial ?_
      refine then_normal ?_
      refine awp_ret ?_
      refine then_ret ?_
      obtain rfl := Option.some.inj h
      exact ⟨.inl rfl, [], by kernel_rfl⟩
    · replace h := cond_f hb h
      clear hb
      refine awp_skip ?_
      refine then_normal ?_
      refine awp_seq ?_
      obtain ⟨hc2, h⟩ := chk_some h
      obtain ⟨hc3, h⟩ := chk_some h
      refine awp_region (rs := []) (cs := []) (live := [4]) (names := []) (st' := (⟨[(4, (.int .u64 (Int.tmod a_v (shlV .u64 (1 : Int) (wu64 a_bits)))))], []⟩ : St)) (obs := [(0 ≤ (wu64 a_bits)), ((shlV .u64 (1 : Int) (wu64 a_bits)) ≠ 0)]) hn mix (no_hand hΓ) (by kernel_rfl) ⟨hc2, hc3, trivial⟩ ?_
      refine then_normal ?_
      refine awp_ret ?_
      obtain rfl := Option.some.inj h
      exact ⟨.inl rfl, [], by kernel_rfl⟩
end Go.Proofs.Ytkbbdfkpclbdhaa
