/-
  What the functions compute, and that they do (part 2 of 3).
-/
import Derived.Test.YtkbbdfkpclbdhaaGen3a
namespace Go.Proofs.Ytkbbdfkpclbdhaa
open Go Go.RowKit
set_option linter.unusedVariables false
set_option maxRecDepth 100000
set_option maxHeartbeats 2000000
noncomputable def m_lockstepref03_Fits (a_o : TOp) : Option Bool :=
  (Option.bind (α := (Unit ⊕ Bool)) (bif (bif (bif (bif (bif ((a_o.Kind : Int) == (4 : Int)) then true else (bif (decide (((10 : Int) : Int) ≤ a_o.Kind)) then (decide ((a_o.Kind : Int) ≤ (12 : Int))) else false)) then true else ((a_o.Kind : Int) == (14 : Int))) then true else ((a_o.Kind : Int) == (15 : Int))) then true else (bif (decide (((18 : Int) : Int) ≤ a_o.Kind)) then (decide ((a_o.Kind : Int) ≤ (20 : Int))) else false)) then (bif ((a_o.Lanes : Int) != (1 : Int)) then (some ((.inr false))) else (some ((.inl ())))) else (some ((.inl ())))) (fun x1 => (match x1 with | (.inl _) => (bif (bif (bif (bif (decide (((16 : Int) : Int) ≤ a_o.Kind)) then (decide ((a_o.Kind : Int) ≤ (19 : Int))) else false) then (decide ((a_o.Bits : Int) < (8 : Int))) else false) then true else (bif (decide (((21 : Int) : Int) ≤ a_o.Kind)) then (decide ((a_o.Lanes : Int) < (2 : Int))) else false)) then (some false) else (bif ((a_o.Kind : Int) == (0 : Int)) then ((m_lockstepref01_Cut a_o.Imm a_o.Bits).bind fun x3 => (some ((x3 : Int) == a_o.Imm))) else (bif ((a_o.Kind : Int) == (14 : Int)) then ((bif ((decide ((a_o.Imm : Int) < (wu64 a_o.Bits))) == true) then m_lockstepref01_May (w64 a_o.Imm) else some (false)).bind fun x4 => (some (bif (decide ((a_o.Imm : Int) < (wu64 a_o.Bits))) then x4 else false))) else (bif ((a_o.Kind : Int) == (15 : Int)) then ((bif ((bif (decide (((wu64 a_o.Bits) : Int) < a_o.Imm)) then (decide ((a_o.Imm : Int) ≤ (64 : Int))) else false) == true) then m_lockstepref01_May (w64 a_o.Imm) else some (false)).bind fun x5 => (some (bif (bif (decide (((wu64 a_o.Bits) : Int) < a_o.Imm)) then (decide ((a_o.Imm : Int) ≤ (64 : Int))) else false) then x5 else false))) else (bif ((a_o.Kind : Int) == (22 : Int)) then (some (decide ((a_o.Imm : Int) < (wu64 a_o.Lanes)))) else (some ((a_o.Imm : Int) == (0 : Int)))))))) | (.inr r6) => (some r6))))
theorem ok_lockstepref03_Fits (a_o : TOp) (r : Bool) (h : m_lockstepref03_Fits a_o = some r) : Spec Try.prog 30 [(.agg (eTOp a_o))] [] (.bool r) [] := by
  refine spec_of_awp (fn := Try.f30) Try.func30 rfl rfl (by kernel_rfl) (fun Γ hn hΓ => ?_)
  have hn : Γ.n = 110 := hn
  unfold m_lockstepref03_Fits at h
  refine awp_seq ?_
  refine awp_region (rs := []) (cs := []) (live := [1]) (names := [1]) (st' := (⟨[(1, (.ptr 1 0))], [(1, .row [(.int .i64 a_o.Kind), (.int .i64 a_o.Bits), (.int .i64 a_o.Lanes), (.int .i64 a_o.Dst), (AV.list 1 eI64 (0 : Int) a_o.Args .none), (.int .u64 a_o.Imm)])]⟩ : St)) (obs := []) hn mix (no_hand hΓ) (by kernel_rfl) trivial ?_
  refine then_normal ?_
  refine awp_seq ?_
  refine awp_region (rs := []) (cs := []) (live := [1, 3]) (names := [1]) (st' := (⟨[(1, (.ptr 1 0)), (3, (.int .i64 a_o.Kind))], [(1, .row [(.int .i64 a_o.Kind), (.int .i64 a_o.Bits), (.int .i64 a_o.Lanes), (.int .i64 a_o.Dst), (AV.list 1 eI64 (0 : Int) a_o.Args .none), (.int .u64 a_o.Imm)])]⟩ : St)) (obs := [(0 < List.length (α := AV) [(.int .i64 a_o.Kind), (.int .i64 a_o.Bits), (.int .i64 a_o.Lanes), (.int .i64 a_o.Dst), (AV.list 1 eI64 (0 : Int) a_o.Args .none), (.int .u64 a_o.Imm)])]) hn mix (no_hand hΓ) (by kernel_rfl) ⟨(Nat.le_of_ble_eq_true rfl), trivial⟩ ?_
  refine then_normal ?_
  refine awp_seq ?_
  obtain ⟨x1, hx1, h⟩ := bind_some h
  refine awp_join (fun (x_ : (Unit ⊕ Bool)) (e : Exit) (st : St) => match x_ with | (.inl _) => e = .normal ∧ Le Γ st (⟨[(1, (.ptr 1 0)), (3, (.int .i64 a_o.Kind))], [(1, .row [(.int .i64 a_o.Kind), (.int .i64 a_o.Bits), (.int .i64 a_o.Lanes), (.int .i64 a_o.Dst), (AV.list 1 eI64 (0 : Int) a_o.Args .none), (.int .u64 a_o.Imm)])]⟩ : St) | (.inr r_) => e = .ret ∧ retK Try.prog Try.f30.results.toList [] (.bool r_) [] e st) hx1 ?_ ?_
  · clear h hx1
    intro y h
    refine awp_seq ?_
    refine awp_region (rs := []) (cs := []) (live := [1, 3, 31]) (names := [1]) (st' := (⟨[(1, (.ptr 1 0)), (3, (.int .i64 a_o.Kind)), (31, (.bool (bif (bif (bif (bif ((a_o.Kind : Int) == (4 : Int)) then true else (bif (decide (((10 : Int) : Int) ≤ a_o.Kind)) then (decide ((a_o.Kind : Int) ≤ (12 : Int))) else false)) then true else ((a_o.Kind : Int) == (14 : Int))) then true else ((a_o.Kind : Int) == (15 : Int))) then true else (bif (decide (((18 : Int) : Int) ≤ a_o.Kind)) then (decide ((a_o.Kind : Int) ≤ (20 : Int))) else false))))], [(1, .row [(.int .i64 a_o.Kind), (.int .i64 a_o.Bits), (.int .i64 a_o.Lanes), (.int .i64 a_o.Dst), (AV.list 1 eI64 (0 : Int) a_o.Args .none), (.int .u64 a_o.Imm)])]⟩ : St)) (obs := [((((a_o.Kind : Int) == (4 : Int)) == false) = true → (((a_o.Kind : Int) == (4 : Int)) == false) = true), ((((a_o.Kind : Int) == (4 : Int)) == false) = true → (((a_o.Kind : Int) == (4 : Int)) == false) = true), (((((a_o.Kind : Int) == (4 : Int)) == false) && ((decide (((10 : Int) : Int) ≤ a_o.Kind)) == true)) = true → ((((a_o.Kind : Int) == (4 : Int)) == false) && ((decide (((10 : Int) : Int) ≤ a_o.Kind)) == true)) = true), ((((a_o.Kind : Int) == (4 : Int)) == false) = true → (((a_o.Kind : Int) == (4 : Int)) == false) = true), ((((a_o.Kind : Int) == (4 : Int)) == false) = true → ((decide (((10 : Int) : Int) ≤ a_o.Kind)) = true → ((((a_o.Kind : Int) == (4 : Int)) == false) && ((decide (((10 : Int) : Int) ≤ a_o.Kind)) == true)) = true)), (((a_o.Kind : Int) == (4 : Int)) = false → (((a_o.Kind : Int) == (4 : Int)) == false) = true), (((bif ((a_o.Kind : Int) == (4 : Int)) then true else (bif (decide (((10 : Int) : Int) ≤ a_o.Kind)) then (decide ((a_o.Kind : Int) ≤ (12 : Int))) else false)) == false) = true → ((bif ((a_o.Kind : Int) == (4 : Int)) then true else (bif (decide (((10 : Int) : Int) ≤ a_o.Kind)) then (decide ((a_o.Kind : Int) ≤ (12 : Int))) else false)) == false) = true), ((bif ((a_o.Kind : Int) == (4 : Int)) then true else (bif (decide (((10 : Int) : Int) ≤ a_o.Kind)) then (decide ((a_o.Kind : Int) ≤ (12 : Int))) else false)) = false → ((bif ((a_o.Kind : Int) == (4 : Int)) then true else (bif (decide (((10 : Int) : Int) ≤ a_o.Kind)) then (decide ((a_o.Kind : Int) ≤ (12 : Int))) else false)) == false) = true), (((bif (bif ((a_o.Kind : Int) == (4 : Int)) then true else (bif (decide (((10 : Int) : Int) ≤ a_o.Kind)) then (decide ((a_o.Kind : Int) ≤ (12 : Int))) else false)) then true else ((a_o.Kind : Int) == (14 : Int))) == false) = true → ((bif (bif ((a_o.Kind : Int) == (4 : Int)) then true else (bif (decide (((10 : Int) : Int) ≤ a_o.Kind)) then (decide ((a_o.Kind : Int) ≤ (12 : Int))) else false)) then true else ((a_o.Kind : Int) == (14 : Int))) == false) = true), ((bif (bif ((a_o.Kind : Int) == (4 : Int)) then true else (bif (decide (((10 : Int) : Int) ≤ a_o.Kind)) then (decide ((a_o.Kind : Int) ≤ (12 : Int))) else false)) then true else ((a_o.Kind : Int) == (14 : Int))) = false → ((bif (bif ((a_o.Kind : Int) == (4 : Int)) then true else (bif (decide (((10 : Int) : Int) ≤ a_o.Kind)) then (decide ((a_o.Kind : Int) ≤ (12 : Int))) else false)) then true else ((a_o.Kind : Int) == (14 : Int))) == false) = true), (((bif (bif (bif ((a_o.Kind : Int) == (4 : Int)) then true else (bif (decide (((10 : Int) : Int) ≤ a_o.Kind)) then (decide ((a_o.Kind : Int) ≤ (12 : Int))) else false)) then true else ((a_o.Kind : Int) == (14 : Int))) then true else ((a_o.Kind : Int) == (15 : Int))) == false) = true → ((bif (bif (bif ((a_o.Kind : Int) == (4 : Int)) then true else (bif (decide (((10 : Int) : Int) ≤ a_o.Kind)) then (decide ((a_o.Kind : Int) ≤ (12 : Int))) else false)) then true else ((a_o.Kind : Int) == (14 : Int))) then true else ((a_o.Kind : Int) == (15 : Int))) == false) = true), (((bif (bif (bif ((a_o.Kind : Int) == (4 : Int)) then true else (bif (decide (((10 : Int) : Int) ≤ a_o.Kind)) then (decide ((a_o.Kind : Int) ≤ (12 : Int))) else false)) then true else ((a_o.Kind : Int) == (14 : Int))) then true else ((a_o.Kind : Int) == (15 : Int))) == false) = true → ((bif (bif (bif ((a_o.Kind : Int) == (4 : Int)) then true else (bif (decide (((10 : Int) : Int) ≤ a_o.Kind)) then (decide ((a_o.Kind : Int) ≤ (12 : Int))) else false)) then true else ((a_o.Kind : Int) == (14 : Int))) then true else ((a_o.Kind : Int) == (15 : Int))) == false) = true), ((((bif (bif (bif ((a_o.Kind : Int) == (4 : Int)) then true else (bif (decide (((10 : Int) : Int) ≤ a_o.Kind)) then (decide ((a_o.Kind : Int) ≤ (12 : Int))) else false)) then true else ((a_o.Kind : Int) == (14 : Int))) then true else ((a_o.Kind : Int) == (15 : Int))) == false) && ((decide (((18 : Int) : Int) ≤ a_o.Kind)) == true)) = true → (((bif (bif (bif ((a_o.Kind : Int) == (4 : Int)) then true else (bif (decide (((10 : Int) : Int) ≤ a_o.Kind)) then (decide ((a_o.Kind : Int) ≤ (12 : Int))) else false)) then true else ((a_o.Kind : Int) == (14 : Int))) then true else ((a_o.Kind : Int) == (15 : Int))) == false) && ((decide (((18 : Int) : Int) ≤ a_o.Kind)) == true)) = true), (((bif (bif (bif ((a_o.Kind : Int) == (4 : Int)) then true else (bif (decide (((10 : Int) : Int) ≤ a_o.Kind)) then (decide ((a_o.Kind : Int) ≤ (12 : Int))) else false)) then true else ((a_o.Kind : Int) == (14 : Int))) then true else ((a_o.Kind : Int) == (15 : Int))) == false) = true → ((bif (bif (bif ((a_o.Kind : Int) == (4 : Int)) then true else (bif (decide (((10 : Int) : Int) ≤ a_o.Kind)) then (decide ((a_o.Kind : Int) ≤ (12 : Int))) else false)) then true else ((a_o.Kind : Int) == (14 : Int))) then true else ((a_o.Kind : Int) == (15 : Int))) == false) = true), (((bif (bif (bif ((a_o.Kind : Int) == (4 : Int)) then true else (bif (decide (((10 : Int) : Int) ≤ a_o.Kind)) then (decide ((a_o.Kind : Int) ≤ (12 : Int))) else false)) then true else ((a_o.Kind : Int) == (14 : Int))) then true else ((a_o.Kind : Int) == (15 : Int))) == false) = true → ((decide (((18 : Int) : Int) ≤ a_o.Kind)) = true → (((bif (bif (bif ((a_o.Kind : Int) == (4 : Int)) then true else (bif (decide (((10 : Int) : Int) ≤ a_o.Kind)) then (decide ((a_o.Kind : Int) ≤ (12 : Int))) else false)) then true else ((a_o.Kind : Int) == (14 : Int))) then true else ((a_o.Kind : Int) == (15 : Int))) == false) && ((decide (((18 : Int) : Int) ≤ a_o.Kind)) == true)) = true)), ((bif (bif (bif ((a_o.Kind : Int) == (4 : Int)) then true else (bif (decide (((10 : Int) : Int) ≤ a_o.Kind)) then (decide ((a_o.Kind : Int) ≤ (12 : Int))) else false)) then true else ((a_o.Kind : Int) == (14 : Int))) then true else ((a_o.Kind : Int) == (15 : Int))) = false → ((bif (bif (bif ((a_o.Kind : Int) == (4 : Int)) then true else (bif (decide (((10 : Int) : Int) ≤ a_o.Kind)) then (decide ((a_o.Kind : Int) ≤ (12 : Int))) else false)) then true else ((a_o.Kind : Int) == (14 : Int))) then true else ((a_o.Kind : Int) == (15 : Int))) == false) = true)]) hn mix (no_hand hΓ) (by kernel_rfl) ⟨(fun hg => hg), (fun hg => hg), (fun hg => hg), (fun hg => hg), (fun hg => (fun hp => by rw [hg, hp]; rfl)), (fun hp => by rw [hp]; rfl), (fun hg => hg), (fun hp => by rw [hp]; rfl), (fun hg => hg), (fun hp => by rw [hp]; rfl), (fun hg => hg), (fun hg => hg), (fun hg => hg), (fun hg => hg), (fun hg => (fun hp => by rw [hg, hp]; rfl)), (fun hp => by rw [hp]; rfl), trivial⟩ ?_
    refine then_normal ?_
    refine awp_cond (bif (bif (bif (bif ((a_o.Kind : Int) == (4 : Int)) then true else (bif (decide (((10 : Int) : Int) ≤ a_o.Kind)) then (decide ((a_o.Kind : Int) ≤ (12 : Int))) else false)) then true else ((a_o.Kind : Int) == (14 : Int))) then true else ((a_o.Kind : Int) == (15 : Int))) then true else (bif (decide (((18 : Int) : Int) ≤ a_o.Kind)) then (decide ((a_o.Kind : Int) ≤ (20 : Int))) else false)) (by kernel_rfl) (fun hb => ?_) (fun hb => ?_)
    · replace h := cond_t hb h
      clear hb
      refine awp_seq ?_
      refine awp_region (rs := []) (cs := []) (live := [1, 3, 34]) (names := [1]) (st' := (⟨[(1, (.ptr 1 0)), (3, (.int .i64 a_o.Kind)), (34, (.bool ((a_o.Lanes : Int) != (1 : Int))))], [(1, .row [(.int .i64 a_o.Kind), (.int .i64 a_o.Bits), (.int .i64 a_o.Lanes), (.int .i64 a_o.Dst), (AV.list 1 eI64 (0 : Int) a_o.Args .none), (.int .u64 a_o.Imm)])]⟩ : St)) (obs := [(2 < List.length (α := AV) [(.int .i64 a_o.Kind), (.int .i64 a_o.Bits), (.int .i64 a_o.Lanes), (.int .i64 a_o.Dst), (AV.list 1 eI64 (0 : Int) a_o.Args .none), (.int .u64 a_o.Imm)])]) hn mix (no_hand hΓ) (by kernel_rfl) ⟨(Nat.le_of_ble_eq_true rfl), trivial⟩ ?_
      refine then_normal ?_
      refine awp_cond ((a_o.Lanes : Int) != (1 : Int)) (by kernel_rfl) (fun hb => ?_) (fun hb => ?_)
      · replace h := cond_t hb h
        clear hb
        refine awp_seq ?_
        refine awp_region (rs := []) (cs := []) (live := [2]) (names := []) (st' := (⟨[(2, (.bool false))], []⟩ : St)) (obs := []) hn mix (no_hand hΓ) (by kernel_rfl) trivial ?_
        refine then_normal ?_
        refine awp_ret ?_
        obtain rfl := Option.some.inj h
        exact ⟨rfl, ⟨.inl rfl, [], by kernel_rfl⟩⟩
      · replace h := cond_f hb h
        clear hb
        refine awp_skip ?_
        obtain rfl := Option.some.inj h
        exact ⟨rfl, le_restrict_eq [1, 3] [1] (by kernel_rfl) (no_hand hΓ)⟩
    · replace h := cond_f hb h
      clear hb
      refine awp_skip ?_
      obtain rfl := Option.some.inj h
      exact ⟨rfl, le_restrict_eq [1, 3] [1] (by kernel_rfl) (no_hand hΓ)⟩
  · clear hx1
    rcases x1 with _ | r6
    · rintro e st' ⟨rfl, hl2⟩
      refine then_normal ?_
      refine awp_le hl2 ?_
      refine awp_seq ?_
      refine awp_seq ?_
      refine awp_region (rs := []) (cs := []) (live := [1, 3, 54]) (names := [1]) (st' := (⟨[(1, (.ptr 1 0)), (3, (.int .i64 a_o.Kind)), (54, (.bool (bif (bif (bif (decide (((16 : Int) : Int) ≤ a_o.Kind)) then (decide ((a_o.Kind : Int) ≤ (19 : Int))) else false) then (decide ((a_o.Bits : Int) < (8 : Int))) else false) then true else (bif (decide (((21 : Int) : Int) ≤ a_o.Kind)) then (decide ((a_o.Lanes : Int) < (2 : Int))) else false))))], [(1, .row [(.int .i64 a_o.Kind), (.int .i64 a_o.Bits), (.int .i64 a_o.Lanes), (.int .i64 a_o.Dst), (AV.list 1 eI64 (0 : Int) a_o.Args .none), (.int .u64 a_o.Imm)])]⟩ : St)) (obs := [(((decide (((16 : Int) : Int) ≤ a_o.Kind)) == true) = true → ((decide (((16 : Int) : Int) ≤ a_o.Kind)) == true) = true), ((decide (((16 : Int) : Int) ≤ a_o.Kind)) = true → ((decide (((16 : Int) : Int) ≤ a_o.Kind)) == true) = true), (((bif (decide (((16 : Int) : Int) ≤ a_o.Kind)) then (decide ((a_o.Kind : Int) ≤ (19 : Int))) else false) == true) = true → ((bif (decide (((16 : Int) : Int) ≤ a_o.Kind)) then (decide ((a_o.Kind : Int) ≤ (19 : Int))) else false) == true) = true), (((bif (decide (((16 : Int) : Int) ≤ a_o.Kind)) then (decide ((a_o.Kind : Int) ≤ (19 : Int))) else false) == true) = true → (1 < List.length (α := AV) [(.int .i64 a_o.Kind), (.int .i64 a_o.Bits), (.int .i64 a_o.Lanes), (.int .i64 a_o.Dst), (AV.list 1 eI64 (0 : Int) a_o.Args .none), (.int .u64 a_o.Imm)])), (((bif (decide (((16 : Int) : Int) ≤ a_o.Kind)) then (decide ((a_o.Kind : Int) ≤ (19 : Int))) else false) == true) = true → ((bif (decide (((16 : Int) : Int) ≤ a_o.Kind)) then (decide ((a_o.Kind : Int) ≤ (19 : Int))) else false) == true) = true), ((bif (decide (((16 : Int) : Int) ≤ a_o.Kind)) then (decide ((a_o.Kind : Int) ≤ (19 : Int))) else false) = true → ((bif (decide (((16 : Int) : Int) ≤ a_o.Kind)) then (decide ((a_o.Kind : Int) ≤ (19 : Int))) else false) == true) = true), (((bif (bif (decide (((16 : Int) : Int) ≤ a_o.Kind)) then (decide ((a_o.Kind : Int) ≤ (19 : Int))) else false) then (decide ((a_o.Bits : Int) < (8 : Int))) else false) == false) = true → ((bif (bif (decide (((16 : Int) : Int) ≤ a_o.Kind)) then (decide ((a_o.Kind : Int) ≤ (19 : Int))) else false) then (decide ((a_o.Bits : Int) < (8 : Int))) else false) == false) = true), (((bif (bif (decide (((16 : Int) : Int) ≤ a_o.Kind)) then (decide ((a_o.Kind : Int) ≤ (19 : Int))) else false) then (decide ((a_o.Bits : Int) < (8 : Int))) else false) == false) = true → ((bif (bif (decide (((16 : Int) : Int) ≤ a_o.Kind)) then (decide ((a_o.Kind : Int) ≤ (19 : Int))) else false) then (decide ((a_o.Bits : Int) < (8 : Int))) else false) == false) = true), ((((bif (bif (decide (((16 : Int) : Int) ≤ a_o.Kind)) then (decide ((a_o.Kind : Int) ≤ (19 : Int))) else false) then (decide ((a_o.Bits : Int) < (8 : Int))) else false) == false) && ((decide (((21 : Int) : Int) ≤ a_o.Kind)) == true)) = true → (((bif (bif (decide (((16 : Int) : Int) ≤ a_o.Kind)) then (decide ((a_o.Kind : Int) ≤ (19 : Int))) else false) then (decide ((a_o.Bits : Int) < (8 : Int))) else false) == false) && ((decide (((21 : Int) : Int) ≤ a_o.Kind)) == true)) = true), ((((bif (bif (decide (((16 : Int) : Int) ≤ a_o.Kind)) then (decide ((a_o.Kind : Int) ≤ (19 : Int))) else false) then (decide ((a_o.Bits : Int) < (8 : Int))) else false) == false) && ((decide (((21 : Int) : Int) ≤ a_o.Kind)) == true)) = true → (2 < List.length (α := AV) [(.int .i64 a_o.Kind), (.int .i64 a_o.Bits), (.int .i64 a_o.Lanes), (.int .i64 a_o.Dst), (AV.list 1 eI64 (0 : Int) a_o.Args .none), (.int .u64 a_o.Imm)])), ((((bif (bif (decide (((16 : Int) : Int) ≤ a_o.Kind)) then (decide ((a_o.Kind : Int) ≤ (19 : Int))) else false) then (decide ((a_o.Bits : Int) < (8 : Int))) else false) == false) && ((decide (((21 : Int) : Int) ≤ a_o.Kind)) == true)) = true → (((bif (bif (decide (((16 : Int) : Int) ≤ a_o.Kind)) then (decide ((a_o.Kind : Int) ≤ (19 : Int))) else false) then (decide ((a_o.Bits : Int) < (8 : Int))) else false) == false) && ((decide (((21 : Int) : Int) ≤ a_o.Kind)) == true)) = true), (((bif (bif (decide (((16 : Int) : Int) ≤ a_o.Kind)) then (decide ((a_o.Kind : Int) ≤ (19 : Int))) else false) then (decide ((a_o.Bits : Int) < (8 : Int))) else false) == false) = true → ((bif (bif (decide (((16 : Int) : Int) ≤ a_o.Kind)) then (decide ((a_o.Kind : Int) ≤ (19 : Int))) else false) then (decide ((a_o.Bits : Int) < (8 : Int))) else false) == false) = true), (((bif (bif (decide (((16 : Int) : Int) ≤ a_o.Kind)) then (decide ((a_o.Kind : Int) ≤ (19 : Int))) else false) then (decide ((a_o.Bits : Int) < (8 : Int))) else false) == false) = true → ((decide (((21 : Int) : Int) ≤ a_o.Kind)) = true → (((bif (bif (decide (((16 : Int) : Int) ≤ a_o.Kind)) then (decide ((a_o.Kind : Int) ≤ (19 : Int))) else false) then (decide ((a_o.Bits : Int) < (8 : Int))) else false) == false) && ((decide (((21 : Int) : Int) ≤ a_o.Kind)) == true)) = true)), ((bif (bif (decide (((16 : Int) : Int) ≤ a_o.Kind)) then (decide ((a_o.Kind : Int) ≤ (19 : Int))) else false) then (decide ((a_o.Bits : Int) < (8 : Int))) else false) = false → ((bif (bif (decide (((16 : Int) : Int) ≤ a_o.Kind)) then (decide ((a_o.Kind : Int) ≤ (19 : Int))) else false) then (decide ((a_o.Bits : Int) < (8 : Int))) else false) == false) = true)]) hn mix (no_hand hΓ) (by kernel_rfl) ⟨(fun hg => hg), (fun hp => by rw [hp]; rfl), (fun hg => hg), (fun hg => (Nat.le_of_ble_eq_true rfl)), (fun hg => hg), (fun hp => by rw [hp]; rfl), (fun hg => hg), (fun hg => hg), (fun hg => hg), (fun hg => (Nat.le_of_ble_eq_true rfl)), (fun hg => hg), (fun hg => hg), (fun hg => (fun hp => by rw [hg, hp]; rfl)), (fun hp => by rw [hp]; rfl), trivial⟩ ?_
      refine then_normal ?_
      refine awp_cond (bif (bif (bif (decide (((16 : Int) : Int) ≤ a_o.Kind)) then (decide ((a_o.Kind : Int) ≤ (19 : Int))) else false) then (decide ((a_o.Bits : Int) < (8 : Int))) else false) then true else (bif (decide (((21 : Int) : Int) ≤ a_o.Kind)) then (decide ((a_o.Lanes : Int) < (2 : Int))) else false)) (by kernel_rfl) (fun hb => ?_) (fun hb => ?_)
      · replace h := cond_t hb h
        clear hb
        refine awp_seq ?_
        refine awp_region (rs := []) (cs := []) (live := [2]) (names := []) (st' := (⟨[(2, (.bool false))], []⟩ : St)) (obs := []) hn mix (no_hand hΓ) (by kernel_rfl) trivial ?_
        refine then_normal ?_
        refine awp_ret ?_
        refine then_ret ?_
        obtain rfl := Option.some.inj h
        exact ⟨.inl rfl, [], by kernel_rfl⟩
      · replace h := cond_f hb h
        clear hb
        refine awp_skip ?_
        refine then_normal ?_
        refine awp_seq ?_
        refine awp_seq ?_
        refine awp_region (rs := []) (cs := []) (live := [1, 55]) (names := [1]) (st' := (⟨[(1, (.ptr 1 0)), (55, (.int .i64 a_o.Kind))], [(1, .row [(.int .i64 a_o.Kind), (.int .i64 a_o.Bits), (.int .i64 a_o.Lanes), (.int .i64 a_o.Dst), (AV.list 1 eI64 (0 : Int) a_o.Args .none), (.int .u64 a_o.Imm)])]⟩ : St)) (obs := []) hn mix (no_hand hΓ) (by kernel_rfl) trivial ?_
        refine then_normal ?_
        refine awp_block ?_
        refine awp_seq ?_
        refine awp_region (rs := []) (cs := []) (live := [1, 55, 56]) (names := [1]) (st' := (⟨[(1, (.ptr 1 0)), (55, (.int .i64 a_o.Kind)), (56, (.bool ((a_o.Kind : Int) == (0 : Int))))], [(1, .row [(.int .i64 a_o.Kind), (.int .i64 a_o.Bits), (.int .i64 a_o.Lanes), (.int .i64 a_o.Dst), (AV.list 1 eI64 (0 : Int) a_o.Args .none), (.int .u64 a_o.Imm)])]⟩ : St)) (obs := []) hn mix (no_hand hΓ) (by kernel_rfl) trivial ?_
        refine then_normal ?_
        refine awp_cond ((a_o.Kind : Int) == (0 : Int)) (by kernel_rfl) (fun hb => ?_) (fun hb => ?_)
        · replace h := cond_t hb h
          clear hb
          refine awp_seq ?_
          obtain ⟨x3, hx3, h⟩ := bind_some h
          refine awp_region (rs := [⟨[], [], (.int .u64 x3), []⟩]) (cs := []) (live := [2]) (names := []) (st' := (⟨[(2, (.bool ((x3 : Int) == a_o.Imm)))], []⟩ : St)) (obs := [(5 < List.length (α := AV) [(.int .i64 a_o.Kind), (.int .i64 a_o.Bits), (.int .i64 a_o.Lanes), (.int .i64 a_o.Dst), (AV.list 1 eI64 (0 : Int) a_o.Args .none), (.int .u64 a_o.Imm)]), (1 < List.length (α := AV) [(.int .i64 a_o.Kind), (.int .i64 a_o.Bits), (.int .i64 a_o.Lanes), (.int .i64 a_o.Dst), (AV.list 1 eI64 (0 : Int) a_o.Args .none), (.int .u64 a_o.Imm)]), (Spec Try.prog 40 [(.int .u64 a_o.Imm), (.int .i64 a_o.Bits)] [] (.int .u64 x3) []), (5 < List.length (α := AV) [(.int .i64 a_o.Kind), (.int .i64 a_o.Bits), (.int .i64 a_o.Lanes), (.int .i64 a_o.Dst), (AV.list 1 eI64 (0 : Int) a_o.Args .none), (.int .u64 a_o.Imm)])]) hn mix (no_hand hΓ) (by kernel_rfl) ⟨(Nat.le_of_ble_eq_true rfl), (Nat.le_of_ble_eq_true rfl), (ok_lockstepref01_Cut a_o.Imm a_o.Bits x3 hx3), (Nat.le_of_ble_eq_true rfl), trivial⟩ ?_
          refine then_normal ?_
          refine awp_ret ?_
          refine block_ret ?_
          refine then_ret ?_
          obtain rfl := Option.some.inj h
          exact ⟨.inl rfl, [], by kernel_rfl⟩
        · replace h := cond_f hb h
          clear hb
          refine awp_seq ?_
          refine awp_region (rs := []) (cs := []) (live := [1, 55, 66]) (names := [1]) (st' := (⟨[(1, (.ptr 1 0)), (55, (.int .i64 a_o.Kind)), (66, (.bool ((a_o.Kind : Int) == (14 : Int))))], [(1, .row [(.int .i64 a_o.Kind), (.int .i64 a_o.Bits), (.int .i64 a_o.Lanes), (.int .i64 a_o.Dst), (AV.list 1 eI64 (0 : Int) a_o.Args .none), (.int .u64 a_o.Imm)])]⟩ : St)) (obs := []) hn mix (no_hand hΓ) (by kernel_rfl) trivial ?_
          refine then_normal ?_
          refine awp_cond ((a_o.Kind : Int) == (14 : Int)) (by kernel_rfl) (fun hb => ?_) (fun hb => ?_)
          · replace h := cond_t hb h
            clear hb
            refine awp_seq ?_
            obtain ⟨x4, hx4, h⟩ := bind_some h
            refine awp_region (rs := [⟨[], [], (.bool x4), []⟩]) (cs := []) (live := [2]) (names := []) (st' := (⟨[(2, (.bool (bif (decide ((a_o.Imm : Int) < (wu64 a_o.Bits))) then x4 else false)))], []⟩ : St)) (obs := [(5 < List.length (α := AV) [(.int .i64 a_o.Kind), (.int .i64 a_o.Bits), (.int .i64 a_o.Lanes), (.int .i64 a_o.Dst), (AV.list 1 eI64 (0 : Int) a_o.Args .none), (.int .u64 a_o.Imm)]), (1 < List.length (α := AV) [(.int .i64 a_o.Kind), (.int .i64 a_o.Bits), (.int .i64 a_o.Lanes), (.int .i64 a_o.Dst), (AV.list 1 eI64 (0 : Int) a_o.Args .none), (.int .u64 a_o.Imm)]), (((decide ((a_o.Imm : Int) < (wu64 a_o.Bits))) == true) = true → ((decide ((a_o.Imm : Int) < (wu64 a_o.Bits))) == true) = true), (((decide ((a_o.Imm : Int) < (wu64 a_o.Bits))) == true) = true → (5 < List.length (α := AV) [(.int .i64 a_o.Kind), (.int .i64 a_o.Bits), (.int .i64 a_o.Lanes), (.int .i64 a_o.Dst), (AV.list 1 eI64 (0 : Int) a_o.Args .none), (.int .u64 a_o.Imm)])), (((decide ((a_o.Imm : Int) < (wu64 a_o.Bits))) == true) = true → ((decide ((a_o.Imm : Int) < (wu64 a_o.Bits))) == true) = true), (((decide ((a_o.Imm : Int) < (wu64 a_o.Bits))) == true) = true → ((decide ((a_o.Imm : Int) < (wu64 a_o.Bits))) == true) = true), (((decide ((a_o.Imm : Int) < (wu64 a_o.Bits))) == true) = true → (Spec Try.prog 34 [(.int .i64 (w64 a_o.Imm))] [] (.bool x4) [])), ((decide ((a_o.Imm : Int) < (wu64 a_o.Bits))) = true → ((decide ((a_o.Imm : Int) < (wu64 a_o.Bits))) == true) = true)]) hn mix (no_hand hΓ) (by kernel_rfl) ⟨(Nat.le_of_ble_eq_true rfl), (Nat.le_of_ble_eq_true rfl), (fun hg => hg), (fun hg => (Nat.le_of_ble_eq_true rfl)), (fun hg => hg), (fun hg => hg), (fun hg => (ok_lockstepref01_May (w64 a_o.Imm) x4 (cond_t hg hx4))), (fun hp => by rw [hp]; rfl), trivial⟩ ?_
            refine then_normal ?_
            refine awp_ret ?_
            refine block_ret ?_
            refine then_ret ?_
            obtain rfl := Option.some.inj h
            exact ⟨.inl rfl, [], by kernel_rfl⟩
          · replace h := cond_f hb h
            clear hb
            refine awp_seq ?_
            refine awp_region (rs := []) (cs := []) (live := [1, 55, 80]) (names := [1]) (st' := (⟨[(1, (.ptr 1 0)), (55, (.int .i64 a_o.Kind)), (80, (.bool ((a_o.Kind : Int) == (15 : Int))))], [(1, .row [(.int .i64 a_o.Kind), (.int .i64 a_o.Bits), (.int .i64 a_o.Lanes), (.int .i64 a_o.Dst), (AV.list 1 eI64 (0 : Int) a_o.Args .none), (.int .u64 a_o.Imm)])]⟩ : St)) (obs := []) hn mix (no_hand hΓ) (by kernel_rfl) trivial ?_
            refine then_normal ?_
            refine awp_cond ((a_o.Kind : Int) == (15 : Int)) (by kernel_rfl) (fun hb => ?_) (fun hb => ?_)
            · replace h := cond_t hb h
              clear hb
              refine awp_seq ?_
              obtain ⟨x5, hx5, h⟩ := bind_some h
              refine awp_region (rs := [⟨[], [], (.bool x5), []⟩]) (cs := []) (live := [2]) (names := []) (st' := (⟨[(2, (.bool (bif (bif (decide (((wu64 a_o.Bits) : Int) < a_o.Imm)) then (decide ((a_o.Imm : Int) ≤ (64 : Int))) else false) then x5 else false)))], []⟩ : St)) (obs := [(5 < List.length (α := AV) [(.int .i64 a_o.Kind), (.int .i64 a_o.Bits), (.int .i64 a_o.Lanes), (.int .i64 a_o.Dst), (AV.list 1 eI64 (0 : Int) a_o.Args .none), (.int .u64 a_o.Imm)]), (1 < List.length (α := AV) [(.int .i64 a_o.Kind), (.int .i64 a_o.Bits), (.int .i64 a_o.Lanes), (.int .i64 a_o.Dst), (AV.list 1 eI64 (0 : Int) a_o.Args .none), (.int .u64 a_o.Imm)]), (((decide (((wu64 a_o.Bits) : Int) < a_o.Imm)) == true) = true → ((decide (((wu64 a_o.Bits) : Int) < a_o.Imm)) == true) = true), (((decide (((wu64 a_o.Bits) : Int) < a_o.Imm)) == true) = true → (5 < List.length (α := AV) [(.int .i64 a_o.Kind), (.int .i64 a_o.Bits), (.int .i64 a_o.Lanes), (.int .i64 a_o.Dst), (AV.list 1 eI64 (0 : Int) a_o.Args .none), (.int .u64 a_o.Imm)])), (((decide (((wu64 a_o.Bits) : Int) < a_o.Imm)) == true) = true → ((decide (((wu64 a_o.Bits) : Int) < a_o.Imm)) == true) = true), ((decide (((wu64 a_o.Bits) : Int) < a_o.Imm)) = true → ((decide (((wu64 a_o.Bits) : Int) < a_o.Imm)) == true) = true), (((bif (decide (((wu64 a_o.Bits) : Int) < a_o.Imm)) then (decide ((a_o.Imm : Int) ≤ (64 : Int))) else false) == true) = true → ((bif (decide (((wu64 a_o.Bits) : Int) < a_o.Imm)) then (decide ((a_o.Imm : Int) ≤ (64 : Int))) else false) == true) = true), (((bif (decide (((wu64 a_o.Bits) : Int) < a_o.Imm)) then (decide ((a_o.Imm : Int) ≤ (64 : Int))) else false) == true) = true → (5 < List.length (α := AV) [(.int .i64 a_o.Kind), (.int .i64 a_o.Bits), (.int .i64 a_o.Lanes), (.int .i64 a_o.Dst), (AV.list 1 eI64 (0 : Int) a_o.Args .none), (.int .u64 a_o.Imm)])), (((bif (decide (((wu64 a_o.Bits) : Int) < a_o.Imm)) then (decide ((a_o.Imm : Int) ≤ (64 : Int))) else false) == true) = true → ((bif (decide (((wu64 a_o.Bits) : Int) < a_o.Imm)) then (decide ((a_o.Imm : Int) ≤ (64 : Int))) else false) == true) = true), (((bif (decide (((wu64 a_o.Bits) : Int) < a_o.Imm)) then (decide ((a_o.Imm : Int) ≤ (64 : Int))) else false) == true) = true → ((bif (decide (((wu64 a_o.Bits) : Int) < a_o.Imm)) then (decide ((a_o.Imm : Int) ≤ (64 : Int))) else false) == true) = true), (((bif (decide (((wu64 a_o.Bits) : Int) < a_o.Imm)) then (decide ((a_o.Imm : Int) ≤ (64 : Int))) else false) == true) = true → (Spec Try.prog 34 [(.int .i64 (w64 a_o.Imm))] [] (.bool x5) [])), ((bif (decide (((wu64 a_o.Bits) : Int) < a_o.Imm)) then (decide ((a_o.Imm : Int) ≤ (64 : Int))) else false) = true → ((bif (decide (((wu64 a_o.Bits) : Int) < a_o.Imm)) then (decide ((a_o.Imm : Int) ≤ (64 : Int))) else false) == true) = true)]) hn mix (no_hand hΓ) (by kernel_rfl) ⟨(Nat.le_of_ble_eq_true rfl), (Nat.le_of_ble_eq_true rfl), (fun hg => hg), (fun hg => (Nat.le_of_ble_eq_true rfl)), (fun hg => hg), (fun hp => by rw [hp]; rfl), (fun hg => hg), (fun hg => (Nat.le_of_ble_eq_true rfl)), (fun hg => hg), (fun hg => hg), (fun hg => (ok_lockstepref01_May (w64 a_o.Imm) x5 (cond_t hg hx5))), (fun hp => by rw [hp]; rfl), trivial⟩ ?_
              refine then_normal ?_
              refine awp_ret ?_
              refine block_ret ?_
              refine then_ret ?_
              obtain rfl := Option.some.inj h
              exact ⟨.inl rfl, [], by kernel_rfl⟩
            · replace h := cond_f hb h
              clear hb
              refine awp_seq ?_
              refine awp_region (rs := []) (cs := []) (live := [1, 99]) (names := [1]) (st' := (⟨[(1, (.ptr 1 0)), (99, (.bool ((a_o.Kind : Int) == (22 : Int))))], [(1, .row [(.int .i64 a_o.Kind), (.int .i64 a_o.Bits), (.int .i64 a_o.Lanes), (.int .i64 a_o.Dst), (AV.list 1 eI64 (0 : Int) a_o.Args .none), (.int .u64 a_o.Imm)])]⟩ : St)) (obs := []) hn mix (no_hand hΓ) (by kernel_rfl) trivial ?_
              refine then_normal ?_
              refine awp_cond ((a_o.Kind : Int) == (22 : Int)) (by kernel_rfl) (fun hb => ?_) (fun hb => ?_)
              · replace h := cond_t hb h
                clear hb
                refine awp_seq ?_
                refine awp_region (rs := []) (cs := []) (live := [2]) (names := []) (st' := (⟨[(2, (.bool (decide ((a_o.Imm : Int) < (wu64 a_o.Lanes)))))], []⟩ : St)) (obs := [(5 < List.length (α := AV) [(.int .i64 a_o.Kind), (.int .i64 a_o.Bits), (.int .i64 a_o.Lanes), (.int .i64 a_o.Dst), (AV.list 1 eI64 (0 : Int) a_o.Args .none), (.int .u64 a_o.Imm)]), (2 < List.length (α := AV) [(.int .i64 a_o.Kind), (.int .i64 a_o.Bits), (.int .i64 a_o.Lanes), (.int .i64 a_o.Dst), (AV.list 1 eI64 (0 : Int) a_o.Args .none), (.int .u64 a_o.Imm)])]) hn mix (no_hand hΓ) (by kernel_rfl) ⟨(Nat.le_of_ble_eq_true rfl), (Nat.le_of_ble_eq_true rfl), trivial⟩ ?_
                refine then_normal ?_
                refine awp_ret ?_
                refine block_ret ?_
                refine then_ret ?_
                obtain rfl := Option.some.inj h
                exact ⟨.inl rfl, [], by kernel_rfl⟩
              · replace h := cond_f hb h
                clear hb
                refine awp_skip ?_
                refine block_normal ?_
                refine then_normal ?_
                refine awp_seq ?_
                refine awp_region (rs := []) (cs := []) (live := [2]) (names := []) (st' := (⟨[(2, (.bool ((a_o.Imm : Int) == (0 : Int))))], []⟩ : St)) (obs := [(5 < List.length (α := AV) [(.int .i64 a_o.Kind), (.int .i64 a_o.Bits), (.int .i64 a_o.Lanes), (.int .i64 a_o.Dst), (AV.list 1 eI64 (0 : Int) a_o.Args .none), (.int .u64 a_o.Imm)])]) hn mix (no_hand hΓ) (by kernel_rfl) ⟨(Nat.le_of_ble_eq_true rfl), trivial⟩ ?_
                refine then_normal ?_
                refine awp_ret ?_
                obtain rfl := Option.some.inj h
                exact ⟨.inl rfl, [], by kernel_rfl⟩
    · rintro e st' ⟨rfl, hk⟩
      refine then_ret ?_
      obtain rfl := Option.some.inj h
      exact hk

noncomputable def m_lockstepref03_Value (a_v : Int) : Option Bool :=
  (some (bif (decide (((0 : Int) : Int) < a_v)) then (decide ((a_v : Int) < (1024 : Int))) else false))
theorem ok_lockstepref03_Value (a_v : Int) (r : Bool) (h : m_lockstepref03_Value a_v = some r) : Spec Try.prog 31 [(.int .i64 a_v)] [] (.bool r) [] := by
  refine spec_of_awp (fn := Try.f31) Try.func31 rfl rfl (by kernel_rfl) (fun Γ hn hΓ => ?_)
  have hn : Γ.n = 9 := hn
  unfold m_lockstepref03_Value at h
  refine awp_seq ?_
  refine awp_region (rs := []) (cs := []) (live := [0]) (names := []) (st' := (⟨[(0, (.int .i64 a_v))], []⟩ : St)) (obs := []) hn mix (no_hand hΓ) (by kernel_rfl) trivial ?_
  refine then_normal ?_
  refine awp_seq ?_
  refine awp_region (rs := []) (cs := []) (live := [2]) (names := []) (st' := (⟨[(2, (.bool (bif (decide (((0 : Int) : Int) < a_v)) then (decide ((a_v : Int) < (1024 : Int))) else false)))], []⟩ : St)) (obs := [(((decide (((0 : Int) : Int) < a_v)) == true) = true → ((decide (((0 : Int) : Int) < a_v)) == true) = true), ((decide (((0 : Int) : Int) < a_v)) = true → ((decide (((0 : Int) : Int) < a_v)) == true) = true)]) hn mix (no_hand hΓ) (by kernel_rfl) ⟨(fun hg => hg), (fun hp => by rw [hp]; rfl), trivial⟩ ?_
  refine then_normal ?_
  refine awp_ret ?_
  obtain rfl := Option.some.inj h
  exact ⟨.inl rfl, [], by kernel_rfl⟩

noncomputable def m_lockstepref03_May_L1 (a_o : TOp) : Int → Option (LR Int (Unit ⊕ Bool)) :=
  fun (i4 : Int) => (bif (decide ((i4 : Int) < (a_o.Args.length : Int))) then (chk (InB i4 a_o.Args.length) ((m_lockstepref03_Value (a_o.Args.getD (i4).toNat (0 : Int))).bind fun x6 => (bif (!x6) then (some (.done (.inr false))) else (some (.next (w64 (i4 + (1 : Int)))))))) else (some (.done (.inl ()))))
noncomputable def m_lockstepref03_May (a_o : TOp) : Option Bool :=
  ((m_lockstepref03_Shape a_o.Bits a_o.Lanes).bind fun x1 => ((bif ((!x1) == false) then m_lockstepref03_Args a_o else some ((0 : Int))).bind fun x2 => ((bif ((bif (!x1) then true else ((x2 : Int) != (a_o.Args.length : Int))) == false) then m_lockstepref03_Fits a_o else some (false)).bind fun x3 => (bif (bif (bif (!x1) then true else ((x2 : Int) != (a_o.Args.length : Int))) then true else (!x3)) then (some false) else ((loopO (S := Int) (X := (Unit ⊕ Bool)) (m_lockstepref03_May_L1 a_o) (0 : Int)).bind (fun x7 => (match x7 with | (.inl _) => (bif (bif ((a_o.Kind : Int) == (17 : Int)) then true else ((a_o.Kind : Int) == (19 : Int))) then (some ((a_o.Dst : Int) == (0 : Int))) else ((m_lockstepref03_Value a_o.Dst).bind fun x9 => (some x9))) | (.inr r10) => (some r10))))))))
theorem ok_lockstepref03_May (a_o : TOp) (r : Bool) (h : m_lockstepref03_May a_o = some r) : Spec Try.prog 13 [(.agg (eTOp a_o))] [] (.bool r) [] := by
  refine spec_of_awp (fn := Try.f13) Try.func13 rfl rfl (by kernel_rfl) (fun Γ hn hΓ => ?_)
  have hn : Γ.n = 51 := hn
  unfold m_lockstepref03_May at h
  refine awp_seq ?_
  refine awp_region (rs := []) (cs := []) (live := [1]) (names := [1]) (st' := (⟨[(1, (.ptr 1 0))], [(1, .row [(.int .i64 a_o.Kind), (.int .i64 a_o.Bits), (.int .i64 a_o.Lanes), (.int .i64 a_o.Dst), (AV.list 1 eI64 (0 : Int) a_o.Args .none), (.int .u64 a_o.Imm)])]⟩ : St)) (obs := []) hn mix (no_hand hΓ) (by kernel_rfl) trivial ?_
  refine then_normal ?_
  refine awp_seq ?_
  refine awp_seq ?_
  obtain ⟨x1, hx1, h⟩ := bind_some h
  obtain ⟨x2, hx2, h⟩ := bind_some h
  obtain ⟨x3, hx3, h⟩ := bind_some h
  refine awp_region (rs := [⟨[], [], (.bool x1), []⟩, ⟨[], [], (.int .i64 x2), []⟩, ⟨[], [], (.bool x3), []⟩]) (cs := []) (live := [1, 22]) (names := [1]) (st' := (⟨[(1, (.ptr 1 0)), (22, (.bool (bif (bif (!x1) then true else ((x2 : Int) != (a_o.Args.length : Int))) then true else (!x3))))], [(1, .row [(.int .i64 a_o.Kind), (.int .i64 a_o.Bits), (.int .i64 a_o.Lanes), (.int .i64 a_o.Dst), (AV.list 1 eI64 (0 : Int) a_o.Args .none), (.int .u64 a_o.Imm)])]⟩ : St)) (obs := [(1 < List.length (α := AV) [(.int .i64 a_o.Kind), (.int .i64 a_o.Bits), (.int .i64 a_o.Lanes), (.int .i64 a_o.Dst), (AV.list 1 eI64 (0 : Int) a_o.Args .none), (.int .u64 a_o.Imm)]), (2 < List.length (α := AV) [(.int .i64 a_o.Kind), (.int .i64 a_o.Bits), (.int .i64 a_o.Lanes), (.int .i64 a_o.Dst), (AV.list 1 eI64 (0 : Int) a_o.Args .none), (.int .u64 a_o.Imm)]), (Spec Try.prog 18 [(.int .i64 a_o.Bits), (.int .i64 a_o.Lanes)] [] (.bool x1) []), (((!x1) == false) = true → (0 + 6 ≤ List.length (α := AV) [(.int .i64 a_o.Kind), (.int .i64 a_o.Bits), (.int .i64 a_o.Lanes), (.int .i64 a_o.Dst), (AV.list 1 eI64 (0 : Int) a_o.Args .none), (.int .u64 a_o.Imm)])), (((!x1) == false) = true → ((!x1) == false) = true), (((!x1) == false) = true → (Spec Try.prog 29 [(.agg (eTOp a_o))] [] (.int .i64 x2) [])), (((!x1) == false) = true → ((!x1) == false) = true), (((!x1) == false) = true → (4 < List.length (α := AV) [(.int .i64 a_o.Kind), (.int .i64 a_o.Bits), (.int .i64 a_o.Lanes), (.int .i64 a_o.Dst), (AV.list 1 eI64 (0 : Int) a_o.Args .none), (.int .u64 a_o.Imm)])), (((!x1) == false) = true → ((!x1) == false) = true), (((!x1) == false) = true → ((!x1) == false) = true), (((!x1) == false) = true → ((!x1) == false) = true), ((!x1) = false → ((!x1) == false) = true), (((bif (!x1) then true else ((x2 : Int) != (a_o.Args.length : Int))) == false) = true → (0 + 6 ≤ List.length (α := AV) [(.int .i64 a_o.Kind), (.int .i64 a_o.Bits), (.int .i64 a_o.Lanes), (.int .i64 a_o.Dst), (AV.list 1 eI64 (0 : Int) a_o.Args .none), (.int .u64 a_o.Imm)])), (((bif (!x1) then true else ((x2 : Int) != (a_o.Args.length : Int))) == false) = true → ((bif (!x1) then true else ((x2 : Int) != (a_o.Args.length : Int))) == false) = true), (((bif (!x1) then true else ((x2 : Int) != (a_o.Args.length : Int))) == false) = true → (Spec Try.prog 30 [(.agg (eTOp a_o))] [] (.bool x3) [])), (((bif (!x1) then true else ((x2 : Int) != (a_o.Args.length : Int))) == false) = true → ((bif (!x1) then true else ((x2 : Int) != (a_o.Args.length : Int))) == false) = true), ((bif (!x1) then true else ((x2 : Int) != (a_o.Args.length : Int))) = false → ((bif (!x1) then true else ((x2 : Int) != (a_o.Args.length : Int))) == false) = true)]) hn mix (no_hand hΓ) (by kernel_rfl) ⟨(Nat.le_of_ble_eq_true rfl), (Nat.le_of_ble_eq_true rfl), (ok_lockstepref03_Shape a_o.Bits a_o.Lanes x1 hx1), (fun hg => (Nat.le_of_ble_eq_true rfl)), (fun hg => hg), (fun hg => (ok_lockstepref03_Args a_o x2 (cond_t hg hx2))), (fun hg => hg), (fun hg => (Nat.le_of_ble_eq_true rfl)), (fun hg => hg), (fun hg => hg), (fun hg => hg), (fun hp => by rw [hp]; rfl), (fun hg => (Nat.le_of_ble_eq_true rfl)), (fun hg => hg), (fun hg => (ok_lockstepref03_Fits a_o x3 (cond_t hg hx3))), (fun hg => hg), (fun hp => by rw [hp]; rfl), trivial⟩ ?_
  refine then_normal ?_
  refine awp_cond (bif (bif (!x1) then true else ((x2 : Int) != (a_o.Args.length : Int))) then true else (!x3)) (by kernel_rfl) (fun hb => ?_) (fun hb => ?_)
  · replace h := cond_t hb h
    clear hb
    refine awp_seq ?_
    refine awp_region (rs := []) (cs := []) (live := [2]) (names := []) (st' := (⟨[(2, (.bool false))], []⟩ : St)) (obs := []) hn mix (no_hand hΓ) (by kernel_rfl) trivial ?_
    refine then_normal ?_
    refine awp_ret ?_
    refine then_ret ?_
    obtain rfl := Option.some.inj h
    exact ⟨.inl rfl, [], by kernel_rfl⟩
  · replace h := cond_f hb h
    clear hb
    refine awp_skip ?_
    refine then_normal ?_
    refine awp_seq ?_
    refine awp_seq ?_
    refine awp_region (rs := []) (cs := []) (live := [1, 3]) (names := [1]) (st' := (⟨[(1, (.ptr 1 0)), (3, (.int .i64 (0 : Int)))], [(1, .row [(.int .i64 a_o.Kind), (.int .i64 a_o.Bits), (.int .i64 a_o.Lanes), (.int .i64 a_o.Dst), (AV.list 1 eI64 (0 : Int) a_o.Args .none), (.int .u64 a_o.Imm)])]⟩ : St)) (obs := []) hn mix (no_hand hΓ) (by kernel_rfl) trivial ?_
    refine then_normal ?_
    refine awp_block ?_
    refine awp_le (st' := (fun (i4 : Int) => (⟨[(1, (.ptr 1 0)), (3, (.int .i64 i4))], [(1, .row [(.int .i64 a_o.Kind), (.int .i64 a_o.Bits), (.int .i64 a_o.Lanes), (.int .i64 a_o.Dst), (AV.list 1 eI64 (0 : Int) a_o.Args .none), (.int .u64 a_o.Imm)])]⟩ : St)) (0 : Int)) (Le.refl _ _) ?_
    obtain ⟨x7, hx7, h⟩ := bind_some h
    refine awp_loop (fun (i4 : Int) => (⟨[(1, (.ptr 1 0)), (3, (.int .i64 i4))], [(1, .row [(.int .i64 a_o.Kind), (.int .i64 a_o.Bits), (.int .i64 a_o.Lanes), (.int .i64 a_o.Dst), (AV.list 1 eI64 (0 : Int) a_o.Args .none), (.int .u64 a_o.Imm)])]⟩ : St)) _ (fun (x_ : (Unit ⊕ Bool)) (e : Exit) (st : St) => match x_ with | (.inl _) => e = (.exit 0) ∧ Le Γ st (⟨[(1, (.ptr 1 0))], [(1, .row [(.int .i64 a_o.Kind), (.int .i64 a_o.Bits), (.int .i64 a_o.Lanes), (.int .i64 a_o.Dst), (AV.list 1 eI64 (0 : Int) a_o.Args .none), (.int .u64 a_o.Imm)])]⟩ : St) | (.inr r_) => e = .ret ∧ retK Try.prog Try.f13.results.toList [] (.bool r_) [] e st) ?_ hx7 ?_
    · intro i4 y h
      unfold m_lockstepref03_May_L1 at h
      refine awp_seq ?_
      refine awp_seq ?_
      refine awp_region (rs := []) (cs := []) (live := [1, 3, 27]) (names := [1]) (st' := (⟨[(1, (.ptr 1 0)), (3, (.int .i64 i4)), (27, (.bool (decide ((i4 : Int) < (a_o.Args.length : Int)))))], [(1, .row [(.int .i64 a_o.Kind), (.int .i64 a_o.Bits), (.int .i64 a_o.Lanes), (.int .i64 a_o.Dst), (AV.list 1 eI64 (0 : Int) a_o.Args .none), (.int .u64 a_o.Imm)])]⟩ : St)) (obs := [(4 < List.length (α := AV) [(.int .i64 a_o.Kind), (.int .i64 a_o.Bits), (.int .i64 a_o.Lanes), (.int .i64 a_o.Dst), (AV.list 1 eI64 (0 : Int) a_o.Args .none), (.int .u64 a_o.Imm)])]) hn mix (no_hand hΓ) (by kernel_rfl) ⟨(Nat.le_of_ble_eq_true rfl), trivial⟩ ?_
      refine then_normal ?_
      refine awp_cond (decide ((i4 : Int) < (a_o.Args.length : Int))) (by kernel_rfl) (fun hb => ?_) (fun hb => ?_)
      · replace h := cond_t hb h
        clear hb
        refine awp_skip ?_
        refine then_normal ?_
        refine awp_seq ?_
        refine awp_block ?_
        refine awp_seq ?_
        obtain ⟨hc5, h⟩ := chk_some h
        obtain ⟨x6, hx6, h⟩ := bind_some h
        refine awp_region (rs := [⟨[], [], (.bool x6), []⟩]) (cs := []) (live := [1, 3, 36]) (names := [1]) (st' := (⟨[(1, (.ptr 1 0)), (3, (.int .i64 i4)), (36, (.bool (!x6)))], [(1, .row [(.int .i64 a_o.Kind), (.int .i64 a_o.Bits), (.int .i64 a_o.Lanes), (.int .i64 a_o.Dst), (AV.list 1 eI64 (0 : Int) a_o.Args .none), (.int .u64 a_o.Imm)])]⟩ : St)) (obs := [(4 < List.length (α := AV) [(.int .i64 a_o.Kind), (.int .i64 a_o.Bits), (.int .i64 a_o.Lanes), (.int .i64 a_o.Dst), (AV.list 1 eI64 (0 : Int) a_o.Args .none), (.int .u64 a_o.Imm)]), (InB i4 a_o.Args.length), (Spec Try.prog 31 [(.int .i64 (a_o.Args.getD (i4).toNat (0 : Int)))] [] (.bool x6) [])]) hn mix (no_hand hΓ) (by kernel_rfl) ⟨(Nat.le_of_ble_eq_true rfl), hc5, (ok_lockstepref03_Value (a_o.Args.getD (i4).toNat (0 : Int)) x6 hx6), trivial⟩ ?_
        refine then_normal ?_
        refine awp_cond (!x6) (by kernel_rfl) (fun hb => ?_) (fun hb => ?_)
        · replace h := cond_t hb h
          clear hb
          refine awp_seq ?_
          refine awp_region (rs := []) (cs := []) (live := [2]) (names := []) (st' := (⟨[(2, (.bool false))], []⟩ : St)) (obs := []) hn mix (no_hand hΓ) (by kernel_rfl) trivial ?_
          refine then_normal ?_
          refine awp_ret ?_
          refine block_ret ?_
          refine then_ret ?_
          obtain rfl := Option.some.inj h
          exact ⟨(by intro hh; cases hh), rfl, ⟨.inl rfl, [], by kernel_rfl⟩⟩
        · replace h := cond_f hb h
          clear hb
          refine awp_skip ?_
          refine block_normal ?_
          refine then_normal ?_
          refine awp_region (rs := []) (cs := []) (live := [1, 3]) (names := [1]) (st' := (⟨[(1, (.ptr 1 0)), (3, (.int .i64 (w64 (i4 + (1 : Int)))))], [(1, .row [(.int .i64 a_o.Kind), (.int .i64 a_o.Bits), (.int .i64 a_o.Lanes), (.int .i64 a_o.Dst), (AV.list 1 eI64 (0 : Int) a_o.Args .none), (.int .u64 a_o.Imm)])]⟩ : St)) (obs := []) hn mix (no_hand hΓ) (by kernel_rfl) trivial ?_
          obtain rfl := Option.some.inj h
          exact ⟨rfl, Le.refl _ _⟩
      · replace h := cond_f hb h
        clear hb
        refine awp_exit ?_
        refine then_exit ?_
        obtain rfl := Option.some.inj h
        exact ⟨(by intro hh; cases hh), rfl, le_restrict_eq [1] [1] (by kernel_rfl) (no_hand hΓ)⟩
    · clear hx7
      rcases x7 with _ | r10
      · rintro e st' ⟨rfl, hl8⟩
        refine block_here ?_
        refine then_normal ?_
        refine awp_le hl8 ?_
        refine awp_seq ?_
        refine awp_seq ?_
        refine awp_region (rs := []) (cs := []) (live := [1, 44]) (names := [1]) (st' := (⟨[(1, (.ptr 1 0)), (44, (.bool (bif ((a_o.Kind : Int) == (17 : Int)) then true else ((a_o.Kind : Int) == (19 : Int)))))], [(1, .row [(.int .i64 a_o.Kind), (.int .i64 a_o.Bits), (.int .i64 a_o.Lanes), (.int .i64 a_o.Dst), (AV.list 1 eI64 (0 : Int) a_o.Args .none), (.int .u64 a_o.Imm)])]⟩ : St)) (obs := [(0 < List.length (α := AV) [(.int .i64 a_o.Kind), (.int .i64 a_o.Bits), (.int .i64 a_o.Lanes), (.int .i64 a_o.Dst), (AV.list 1 eI64 (0 : Int) a_o.Args .none), (.int .u64 a_o.Imm)]), ((((a_o.Kind : Int) == (17 : Int)) == false) = true → (((a_o.Kind : Int) == (17 : Int)) == false) = true), ((((a_o.Kind : Int) == (17 : Int)) == false) = true → (0 < List.length (α := AV) [(.int .i64 a_o.Kind), (.int .i64 a_o.Bits), (.int .i64 a_o.Lanes), (.int .i64 a_o.Dst), (AV.list 1 eI64 (0 : Int) a_o.Args .none), (.int .u64 a_o.Imm)])), ((((a_o.Kind : Int) == (17 : Int)) == false) = true → (((a_o.Kind : Int) == (17 : Int)) == false) = true), (((a_o.Kind : Int) == (17 : Int)) = false → (((a_o.Kind : Int) == (17 : Int)) == false) = true)]) hn mix (no_hand hΓ) (by kernel_rfl) ⟨(Nat.le_of_ble_eq_true rfl), (fun hg => hg), (fun hg => (Nat.le_of_ble_eq_true rfl)), (fun hg => hg), (fun hp => by rw [hp]; rfl), trivial⟩ ?_
        refine then_normal ?_
        refine awp_cond (bif ((a_o.Kind : Int) == (17 : Int)) then true else ((a_o.Kind : Int) == (19 : Int))) (by kernel_rfl) (fun hb => ?_) (fun hb => ?_)
        · replace h := cond_t hb h
          clear hb
          refine awp_seq ?_
          refine awp_region (rs := []) (cs := []) (live := [2]) (names := []) (st' := (⟨[(2, (.bool ((a_o.Dst : Int) == (0 : Int))))], []⟩ : St)) (obs := [(3 < List.length (α := AV) [(.int .i64 a_o.Kind), (.int .i64 a_o.Bits), (.int .i64 a_o.Lanes), (.int .i64 a_o.Dst), (AV.list 1 eI64 (0 : Int) a_o.Args .none), (.int .u64 a_o.Imm)])]) hn mix (no_hand hΓ) (by kernel_rfl) ⟨(Nat.le_of_ble_eq_true rfl), trivial⟩ ?_
          refine then_normal ?_
          refine awp_ret ?_
          refine then_ret ?_
          obtain rfl := Option.some.inj h
          exact ⟨.inl rfl, [], by kernel_rfl⟩
        · replace h := cond_f hb h
          clear hb
          refine awp_skip ?_
          refine then_normal ?_
          refine awp_seq ?_
          obtain ⟨x9, hx9, h⟩ := bind_some h
          refine awp_region (rs := [⟨[], [], (.bool x9), []⟩]) (cs := []) (live := [2]) (names := []) (st' := (⟨[(2, (.bool x9))], []⟩ : St)) (obs := [(3 < List.length (α := AV) [(.int .i64 a_o.Kind), (.int .i64 a_o.Bits), (.int .i64 a_o.Lanes), (.int .i64 a_o.Dst), (AV.list 1 eI64 (0 : Int) a_o.Args .none), (.int .u64 a_o.Imm)]), (Spec Try.prog 31 [(.int .i64 a_o.Dst)] [] (.bool x9) [])]) hn mix (no_hand hΓ) (by kernel_rfl) ⟨(Nat.le_of_ble_eq_true rfl), (ok_lockstepref03_Value a_o.Dst x9 hx9), trivial⟩ ?_
          refine then_normal ?_
          refine awp_ret ?_
          obtain rfl := Option.some.inj h
          exact ⟨.inl rfl, [], by kernel_rfl⟩
      · rintro e st' ⟨rfl, hk⟩
        refine block_ret ?_
        refine then_ret ?_
        obtain rfl := Option.some.inj h
        exact hk

noncomputable def m_lockstepref03_Gives (a_o : TOp) : Option (Int × Int) :=
  ((m_lockstepref03_May a_o).bind fun x1 => (bif (bif (bif (!x1) then true else ((a_o.Kind : Int) == (17 : Int))) then true else ((a_o.Kind : Int) == (19 : Int))) then (some ((0 : Int), (0 : Int))) else (bif (bif (decide (((10 : Int) : Int) ≤ a_o.Kind)) then (decide ((a_o.Kind : Int) ≤ (12 : Int))) else false) then (some ((1 : Int), (1 : Int))) else (bif ((a_o.Kind : Int) == (22 : Int)) then (some (a_o.Bits, (1 : Int))) else (some (a_o.Bits, a_o.Lanes))))))
theorem ok_lockstepref03_Gives (a_o : TOp) (r : (Int × Int)) (h : m_lockstepref03_Gives a_o = some r) : Spec Try.prog 11 [(.agg (eTOp a_o))] [] (.tuple [(.int .i64 r.1), (.int .i64 r.2)]) [] := by
  refine spec_of_awp (fn := Try.f11) Try.func11 rfl rfl (by kernel_rfl) (fun Γ hn hΓ => ?_)
  have hn : Γ.n = 34 := hn
  unfold m_lockstepref03_Gives at h
  refine awp_seq ?_
  refine awp_region (rs := []) (cs := []) (live := [1]) (names := [1]) (st' := (⟨[(1, (.ptr 1 0))], [(1, .row [(.int .i64 a_o.Kind), (.int .i64 a_o.Bits), (.int .i64 a_o.Lanes), (.int .i64 a_o.Dst), (AV.list 1 eI64 (0 : Int) a_o.Args .none), (.int .u64 a_o.Imm)])]⟩ : St)) (obs := []) hn mix (no_hand hΓ) (by kernel_rfl) trivial ?_
  refine then_normal ?_
  refine awp_seq ?_
  refine awp_seq ?_
  obtain ⟨x1, hx1, h⟩ := bind_some h
  refine awp_region (rs := [⟨[], [], (.bool x1), []⟩]) (cs := []) (live := [1, 16]) (names := [1]) (st' := (⟨[(1, (.ptr 1 0)), (16, (.bool (bif (bif (!x1) then true else ((a_o.Kind : Int) == (17 : Int))) then true else ((a_o.Kind : Int) == (19 : Int)))))], [(1, .row [(.int .i64 a_o.Kind), (.int .i64 a_o.Bits), (.int .i64 a_o.Lanes), (.int .i64 a_o.Dst), (AV.list 1 eI64 (0 : Int) a_o.Args .none), (.int .u64 a_o.Imm)])]⟩ : St)) (obs := [(0 + 6 ≤ List.length (α := AV) [(.int .i64 a_o.Kind), (.int .i64 a_o.Bits), (.int .i64 a_o.Lanes), (.int .i64 a_o.Dst), (AV.list 1 eI64 (0 : Int) a_o.Args .none), (.int .u64 a_o.Imm)]), (Spec Try.prog 13 [(.agg (eTOp a_o))] [] (.bool x1) []), (((!x1) == false) = true → ((!x1) == false) = true), (((!x1) == false) = true → (0 < List.length (α := AV) [(.int .i64 a_o.Kind), (.int .i64 a_o.Bits), (.int .i64 a_o.Lanes), (.int .i64 a_o.Dst), (AV.list 1 eI64 (0 : Int) a_o.Args .none), (.int .u64 a_o.Imm)])), (((!x1) == false) = true → ((!x1) == false) = true), ((!x1) = false → ((!x1) == false) = true), (((bif (!x1) then true else ((a_o.Kind : Int) == (17 : Int))) == false) = true → ((bif (!x1) then true else ((a_o.Kind : Int) == (17 : Int))) == false) = true), (((bif (!x1) then true else ((a_o.Kind : Int) == (17 : Int))) == false) = true → (0 < List.length (α := AV) [(.int .i64 a_o.Kind), (.int .i64 a_o.Bits), (.int .i64 a_o.Lanes), (.int .i64 a_o.Dst), (AV.list 1 eI64 (0 : Int) a_o.Args .none), (.int .u64 a_o.Imm)])), (((bif (!x1) then true else ((a_o.Kind : Int) == (17 : Int))) == false) = true → ((bif (!x1) then true else ((a_o.Kind : Int) == (17 : Int))) == false) = true), ((bif (!x1) then true else ((a_o.Kind : Int) == (17 : Int))) = false → ((bif (!x1) then true else ((a_o.Kind : Int) == (17 : Int))) == false) = true)]) hn mix (no_hand hΓ) (by kernel_rfl) ⟨(Nat.le_of_ble_eq_true rfl), (ok_lockstepref03_May a_o x1 hx1), (fun hg => hg), (fun hg => (Nat.le_of_ble_eq_true rfl)), (fun hg => hg), (fun hp => by rw [hp]; rfl), (fun hg => hg), (fun hg => (Nat.le_of_ble_eq_true rfl)), (fun hg => hg), (fun hp => by rw [hp]; rfl), trivial⟩ ?_
  refine then_normal ?_
  refine awp_cond (bif (bif (!x1) then true else ((a_o.Kind : Int) == (17 : Int))) then true else ((a_o.Kind : Int) == (19 : Int))) (by kernel_rfl) (fun hb => ?_) (fun hb => ?_)
  · replace h := cond_t hb h
    clear hb
    refine awp_seq ?_
    refine awp_region (rs := []) (cs := []) (live := [2, 3]) (names := []) (st' := (⟨[(2, (.int .i64 (0 : Int))), (3, (.int .i64 (0 : Int)))], []⟩ : St)) (obs := []) hn mix (no_hand hΓ) (by kernel_rfl) trivial ?_
    refine then_normal ?_
    refine awp_ret ?_
    refine then_ret ?_
    obtain rfl := Option.some.inj h
    exact ⟨.inl rfl, [], by kernel_rfl⟩
  · replace h := cond_f hb h
    clear hb
    refine awp_skip ?_
    refine then_normal ?_
    refine awp_seq ?_
    refine awp_seq ?_
    refine awp_region (rs := []) (cs := []) (live := [1, 24]) (names := [1]) (st' := (⟨[(1, (.ptr 1 0)), (24, (.bool (bif (decide (((10 : Int) : Int) ≤ a_o.Kind)) then (decide ((a_o.Kind : Int) ≤ (12 : Int))) else false)))], [(1, .row [(.int .i64 a_o.Kind), (.int .i64 a_o.Bits), (.int .i64 a_o.Lanes), (.int .i64 a_o.Dst), (AV.list 1 eI64 (0 : Int) a_o.Args .none), (.int .u64 a_o.Imm)])]⟩ : St)) (obs := [(0 < List.length (α := AV) [(.int .i64 a_o.Kind), (.int .i64 a_o.Bits), (.int .i64 a_o.Lanes), (.int .i64 a_o.Dst), (AV.list 1 eI64 (0 : Int) a_o.Args .none), (.int .u64 a_o.Imm)]), (((decide (((10 : Int) : Int) ≤ a_o.Kind)) == true) = true → ((decide (((10 : Int) : Int) ≤ a_o.Kind)) == true) = true), (((decide (((10 : Int) : Int) ≤ a_o.Kind)) == true) = true → (0 < List.length (α := AV) [(.int .i64 a_o.Kind), (.int .i64 a_o.Bits), (.int .i64 a_o.Lanes), (.int .i64 a_o.Dst), (AV.list 1 eI64 (0 : Int) a_o.Args .none), (.int .u64 a_o.Imm)])), (((decide (((10 : Int) : Int) ≤ a_o.Kind)) == true) = true → ((decide (((10 : Int) : Int) ≤ a_o.Kind)) == true) = true), ((decide (((10 : Int) : Int) ≤ a_o.Kind)) = true → ((decide (((10 : Int) : Int) ≤ a_o.Kind)) == true) = true)]) hn mix (no_hand hΓ) (by kernel_rfl) ⟨(Nat.le_of_ble_eq_true rfl), (fun hg => hg), (fun hg => (Nat.le_of_ble_eq_true rfl)), (fun hg => hg), (fun hp => by rw [hp]; rfl), trivial⟩ ?_
    refine then_normal ?_
    refine awp_cond (bif (decide (((10 : Int) : Int) ≤ a_o.Kind)) then (decide ((a_o.Kind : Int) ≤ (12 : Int))) else false) (by kernel_rfl) (fun hb => ?_) (fun hb => ?_)
    · replace h := cond_t hb h
      clear hb
      refine awp_seq ?_
      refine awp_region (rs := []) (cs := []) (live := [2, 3]) (names := []) (st' := (⟨[(2, (.int .i64 (1 : Int))), (3, (.int .i64 (1 : Int)))], []⟩ : St)) (obs := []) hn mix (no_hand hΓ) (by kernel_rfl) trivial ?_
      refine then_normal ?_
      refine awp_ret ?_
      refine then_ret ?_
      obtain rfl := Option.some.inj h
      exact ⟨.inl rfl, [], by kernel_rfl⟩
    · replace h := cond_f hb h
      clear hb
      refine awp_skip ?_
      refine then_normal ?_
      refine awp_seq ?_
      refine awp_seq ?_
      refine awp_region (rs := []) (cs := []) (live := [1, 27]) (names := [1]) (st' := (⟨[(1, (.ptr 1 0)), (27, (.bool ((a_o.Kind : Int) == (22 : Int))))], [(1, .row [(.int .i64 a_o.Kind), (.int .i64 a_o.Bits), (.int .i64 a_o.Lanes), (.int .i64 a_o.Dst), (AV.list 1 eI64 (0 : Int) a_o.Args .none), (.int .u64 a_o.Imm)])]⟩ : St)) (obs := [(0 < List.length (α := AV) [(.int .i64 a_o.Kind), (.int .i64 a_o.Bits), (.int .i64 a_o.Lanes), (.int .i64 a_o.Dst), (AV.list 1 eI64 (0 : Int) a_o.Args .none), (.int .u64 a_o.Imm)])]) hn mix (no_hand hΓ) (by kernel_rfl) ⟨(Nat.le_of_ble_eq_true rfl), trivial⟩ ?_
      refine then_normal ?_
      refine awp_cond ((a_o.Kind : Int) == (22 : Int)) (by kernel_rfl) (fun hb => ?_) (fun hb => ?_)
      · replace h := cond_t hb h
        clear hb
        refine awp_seq ?_
        refine awp_region (rs := []) (cs := []) (live := [2, 3]) (names := []) (st' := (⟨[(2, (.int .i64 a_o.Bits)), (3, (.int .i64 (1 : Int)))], []⟩ : St)) (obs := [(1 < List.length (α := AV) [(.int .i64 a_o.Kind), (.int .i64 a_o.Bits), (.int .i64 a_o.Lanes), (.int .i64 a_o.Dst), (AV.list 1 eI64 (0 : Int) a_o.Args .none), (.int .u64 a_o.Imm)])]) hn mix (no_hand hΓ) (by kernel_rfl) ⟨(Nat.le_of_ble_eq_true rfl), trivial⟩ ?_
        refine then_normal ?_
        refine awp_ret ?_
        refine then_ret ?_
        obtain rfl := Option.some.inj h
        exact ⟨.inl rfl, [], by kernel_rfl⟩
      · replace h := cond_f hb h
        clear hb
        refine awp_skip ?_
        refine then_normal ?_
        refine awp_seq ?_
        refine awp_region (rs := []) (cs := []) (live := [2, 3]) (names := []) (st' := (⟨[(2, (.int .i64 a_o.Bits)), (3, (.int .i64 a_o.Lanes))], []⟩ : St)) (obs := [(1 < List.length (α := AV) [(.int .i64 a_o.Kind), (.int .i64 a_o.Bits), (.int .i64 a_o.Lanes), (.int .i64 a_o.Dst), (AV.list 1 eI64 (0 : Int) a_o.Args .none), (.int .u64 a_o.Imm)]), (2 < List.length (α := AV) [(.int .i64 a_o.Kind), (.int .i64 a_o.Bits), (.int .i64 a_o.Lanes), (.int .i64 a_o.Dst), (AV.list 1 eI64 (0 : Int) a_o.Args .none), (.int .u64 a_o.Imm)])]) hn mix (no_hand hΓ) (by kernel_rfl) ⟨(Nat.le_of_ble_eq_true rfl), (Nat.le_of_ble_eq_true rfl), trivial⟩ ?_
        refine then_normal ?_
        refine awp_ret ?_
        obtain rfl := Option.some.inj h
        exact ⟨.inl rfl, [], by kernel_rfl⟩

noncomputable def m_kind_Takes (a_o : TOp) : Option (List ((Int × Int))) :=
  ((m_kind_May a_o).bind fun x1 => (bif (!x1) then (some ([] : List (Int × Int))) else ((m_kind_takes a_o).bind fun x2 => (some x2))))
theorem ok_kind_Takes (a_o : TOp) (r : List ((Int × Int))) (h : m_kind_Takes a_o = some r) : Spec Try.prog 15 [(.agg (eTOp a_o))] [] (AV.list 2 eA2I64 ((0 : Int), (0 : Int)) r .none) [] := by
  refine spec_of_awp (fn := Try.f15) Try.func15 rfl rfl (by kernel_rfl) (fun Γ hn hΓ => ?_)
  have hn : Γ.n = 8 := hn
  unfold m_kind_Takes at h
  refine awp_seq ?_
  refine awp_region (rs := []) (cs := [(2, (AV.list 2 eA2I64 ((0 : Int), (0 : Int)) ([] : List (Int × Int)) .exact))]) (live := [1]) (names := [1]) (st' := (⟨[(1, (.ptr 1 0))], [(1, .row [(.int .i64 a_o.Kind), (.int .i64 a_o.Bits), (.int .i64 a_o.Lanes), (.int .i64 a_o.Dst), (AV.list 1 eI64 (0 : Int) a_o.Args .none), (.int .u64 a_o.Imm)])]⟩ : St)) (obs := [(AVle (.slice 0 0 (fun _ => []) .exact) (AV.list 2 eA2I64 ((0 : Int), (0 : Int)) ([] : List (Int × Int)) .exact))]) hn mix (no_hand hΓ) (by kernel_rfl) ⟨av_nil, trivial⟩ ?_
  refine then_normal ?_
  refine awp_seq ?_
  refine awp_seq ?_
  obtain ⟨x1, hx1, h⟩ := bind_some h
  refine awp_region (rs := [⟨[], [], (.bool x1), []⟩]) (cs := []) (live := [1, 5]) (names := [1]) (st' := (⟨[(1, (.ptr 1 0)), (5, (.bool (!x1)))], [(1, .row [(.int .i64 a_o.Kind), (.int .i64 a_o.Bits), (.int .i64 a_o.Lanes), (.int .i64 a_o.Dst), (AV.list 1 eI64 (0 : Int) a_o.Args .none), (.int .u64 a_o.Imm)])]⟩ : St)) (obs := [(0 + 6 ≤ List.length (α := AV) [(.int .i64 a_o.Kind), (.int .i64 a_o.Bits), (.int .i64 a_o.Lanes), (.int .i64 a_o.Dst), (AV.list 1 eI64 (0 : Int) a_o.Args .none), (.int .u64 a_o.Imm)]), (Spec Try.prog 12 [(.agg (eTOp a_o))] [] (.bool x1) [])]) hn mix (no_hand hΓ) (by kernel_rfl) ⟨(Nat.le_of_ble_eq_true rfl), (ok_kind_May a_o x1 hx1), trivial⟩ ?_
  refine then_normal ?_
  refine awp_cond (!x1) (by kernel_rfl) (fun hb => ?_) (fun hb => ?_)
  · replace h := cond_t hb h
    clear hb
    refine awp_seq ?_
    refine awp_region (rs := []) (cs := [(2, (AV.list 2 eA2I64 ((0 : Int), (0 : Int)) ([] : List (Int × Int)) .exact))]) (live := [2]) (names := []) (st' := (⟨[(2, (AV.list 2 eA2I64 ((0 : Int), (0 : Int)) ([] : List (Int × Int)) .exact))], []⟩ : St)) (obs := [(AVle (.slice 0 0 (fun _ => []) .exact) (AV.list 2 eA2I64 ((0 : Int), (0 : Int)) ([] : List (Int × Int)) .exact))]) hn mix (no_hand hΓ) (by kernel_rfl) ⟨av_nil, trivial⟩ ?_
    refine then_normal ?_
    refine awp_le (st' := (⟨[(2, (AV.list 2 eA2I64 ((0 : Int), (0 : Int)) ([] : List (Int × Int)) .none))], []⟩ : St)) (Le.trans (le_restrict_eq (st' := (⟨[(2, (AV.list 2 eA2I64 ((0 : Int), (0 : Int)) ([] : List (Int × Int)) .exact))], []⟩ : St)) [2] [] (by kernel_rfl) (no_hand hΓ)) (le_of (.cons AVle.untag .nil) .nil)) ?_
    refine awp_ret ?_
    refine then_ret ?_
    obtain rfl := Option.some.inj h
    exact ⟨.inl rfl, [], by kernel_rfl⟩
  · replace h := cond_f hb h
    clear hb
    refine awp_skip ?_
    refine then_normal ?_
    refine awp_seq ?_
    obtain ⟨x2, hx2, h⟩ := bind_some h
    refine awp_region (rs := [⟨[], [], (AV.list 2 eA2I64 ((0 : Int), (0 : Int)) x2 .none), []⟩]) (cs := []) (live := [2]) (names := []) (st' := (⟨[(2, (AV.list 2 eA2I64 ((0 : Int), (0 : Int)) x2 .none))], []⟩ : St)) (obs := [(0 + 6 ≤ List.length (α := AV) [(.int .i64 a_o.Kind), (.int .i64 a_o.Bits), (.int .i64 a_o.Lanes), (.int .i64 a_o.Dst), (AV.list 1 eI64 (0 : Int) a_o.Args .none), (.int .u64 a_o.Imm)]), (Spec Try.prog 32 [(.agg (eTOp a_o))] [] (AV.list 2 eA2I64 ((0 : Int), (0 : Int)) x2 .none) [])]) hn mix (no_hand hΓ) (by kernel_rfl) ⟨(Nat.le_of_ble_eq_true rfl), (ok_kind_takes a_o x2 hx2), trivial⟩ ?_
    refine then_normal ?_
    refine awp_ret ?_
    obtain rfl := Option.some.inj h
    exact ⟨.inl rfl, [], by kernel_rfl⟩

noncomputable def m_lockstepref03_Takes_L1 (a_o : TOp) : (List ((Int × Int)) × Int) → Option (LR (List ((Int × Int)) × Int) (List ((Int × Int)))) :=
  fun ((l2, i3) : (List ((Int × Int)) × Int)) => (bif (decide ((i3 : Int) < (a_o.Args.length : Int))) then (Option.bind (α := (Int × Int)) (Option.bind (α := Bool) (bif ((a_o.Kind : Int) == (13 : Int)) then (some (((a_o.Kind : Int) == (13 : Int)))) else (some (((a_o.Kind : Int) == (20 : Int))))) (fun x8 => ((bif x8 then (bif ((i3 : Int) == (0 : Int)) then (some (((1 : Int), (1 : Int)))) else (some ((a_o.Bits, a_o.Lanes)))) else (Option.bind (α := Bool) (bif ((a_o.Kind : Int) == (14 : Int)) then (some (((a_o.Kind : Int) == (14 : Int)))) else (some (((a_o.Kind : Int) == (15 : Int))))) (fun x11 => ((bif x11 then (some (((w64 a_o.Imm), (1 : Int)))) else (Option.bind (α := Bool) (bif ((a_o.Kind : Int) == (16 : Int)) then (some (((a_o.Kind : Int) == (16 : Int)))) else (some (((a_o.Kind : Int) == (17 : Int))))) (fun x14 => ((bif x14 then (bif ((i3 : Int) == (0 : Int)) then (some (((64 : Int), (1 : Int)))) else (some ((a_o.Bits, a_o.Lanes)))) else (Option.bind (α := Bool) (bif ((a_o.Kind : Int) == (18 : Int)) then (some (((a_o.Kind : Int) == (18 : Int)))) else (some (((a_o.Kind : Int) == (19 : Int))))) (fun x17 => ((bif x17 then (Option.bind (α := (Int × Int)) (bif ((i3 : Int) == (0 : Int)) then (some (((1 : Int), (1 : Int)))) else (some ((a_o.Bits, a_o.Lanes)))) (fun x21 => (match x21 with | (i19, i20) => (bif ((i3 : Int) == (1 : Int)) then (some (((64 : Int), (1 : Int)))) else (some ((i19, i20))))))) else (bif ((a_o.Kind : Int) == (21 : Int)) then (some ((a_o.Bits, (1 : Int)))) else (some ((a_o.Bits, a_o.Lanes)))))))))))))))))))) (fun x23 => (match x23 with | (i5, i6) => (chk (l2.length + ([(i5, i6)] : List ((Int × Int))).length ≤ room) (some (.next ((l2 ++ ([(i5, i6)] : List ((Int × Int)))), (w64 (i3 + (1 : Int)))))))))) else (some (.done l2)))
noncomputable def m_lockstepref03_Takes (a_o : TOp) : Option (List ((Int × Int))) :=
  ((m_lockstepref03_May a_o).bind fun x1 => (bif (!x1) then (some ([] : List (Int × Int))) else ((loopO (S := (List ((Int × Int)) × Int)) (X := List ((Int × Int))) (m_lockstepref03_Takes_L1 a_o) (([] : List (Int × Int)), (0 : Int))).bind (fun x26 => ((some x26))))))
theorem ok_lockstepref03_Takes (a_o : TOp) (r : List ((Int × Int))) (h : m_lockstepref03_Takes a_o = some r) : Spec Try.prog 16 [(.agg (eTOp a_o))] [] (AV.list 2 eA2I64 ((0 : Int), (0 : Int)) r (.own 20000)) [(20000, .tok 2 36 r.length)] := by
  refine spec_of_awp (fn := Try.f16) Try.func16 rfl rfl (by kernel_rfl) (fun Γ hn hΓ => ?_)
  have hn : Γ.n = 61 := hn
  unfold m_lockstepref03_Takes at h
  refine awp_seq ?_
  refine awp_region (rs := []) (cs := [(2, (AV.list 2 eA2I64 ((0 : Int), (0 : Int)) ([] : List (Int × Int)) .exact))]) (live := [1]) (names := [1]) (st' := (⟨[(1, (.ptr 1 0))], [(1, .row [(.int .i64 a_o.Kind), (.int .i64 a_o.Bits), (.int .i64 a_o.Lanes), (.int .i64 a_o.Dst), (AV.list 1 eI64 (0 : Int) a_o.Args .none), (.int .u64 a_o.Imm)])]⟩ : St)) (obs := [(AVle (.slice 0 0 (fun _ => []) .exact) (AV.list 2 eA2I64 ((0 : Int), (0 : Int)) ([] : List (Int × Int)) .exact))]) hn mix (no_hand hΓ) (by kernel_rfl) ⟨av_nil, trivial⟩ ?_
  refine then_normal ?_
  refine awp_seq ?_
  refine awp_region (rs := []) (cs := [(3, (AV.list 2 eA2I64 ((0 : Int), (0 : Int)) ([] : List (Int × Int)) .exact))]) (live := [1, 3]) (names := [1]) (st' := (⟨[(1, (.ptr 1 0)), (3, (AV.list 2 eA2I64 ((0 : Int), (0 : Int)) ([] : List (Int × Int)) .exact))], [(1, .row [(.int .i64 a_o.Kind), (.int .i64 a_o.Bits), (.int .i64 a_o.Lanes), (.int .i64 a_o.Dst), (AV.list 1 eI64 (0 : Int) a_o.Args .none), (.int .u64 a_o.Imm)])]⟩ : St)) (obs := [(AVle (.slice 0 0 (fun _ => []) .exact) (AV.list 2 eA2I64 ((0 : Int), (0 : Int)) ([] : List (Int × Int)) .exact))]) hn mix (no_hand hΓ) (by kernel_rfl) ⟨av_nil, trivial⟩ ?_
  refine then_normal ?_
  refine awp_seq ?_
  refine awp_seq ?_
  obtain ⟨x1, hx1, h⟩ := bind_some h
  refine awp_region (rs := [⟨[], [], (.bool x1), []⟩]) (cs := []) (live := [1, 3, 8]) (names := [1]) (st' := (⟨[(1, (.ptr 1 0)), (3, (AV.list 2 eA2I64 ((0 : Int), (0 : Int)) ([] : List (Int × Int)) .exact)), (8, (.bool (!x1)))], [(1, .row [(.int .i64 a_o.Kind), (.int .i64 a_o.Bits), (.int .i64 a_o.Lanes), (.int .i64 a_o.Dst), (AV.list 1 eI64 (0 : Int) a_o.Args .none), (.int .u64 a_o.Imm)])]⟩ : St)) (obs := [(0 + 6 ≤ List.length (α := AV) [(.int .i64 a_o.Kind), (.int .i64 a_o.Bits), (.int .i64 a_o.Lanes), (.int .i64 a_o.Dst), (AV.list 1 eI64 (0 : Int) a_o.Args .none), (.int .u64 a_o.Imm)]), (Spec Try.prog 13 [(.agg (eTOp a_o))] [] (.bool x1) [])]) hn mix (no_hand hΓ) (by kernel_rfl) ⟨(Nat.le_of_ble_eq_true rfl), (ok_lockstepref03_May a_o x1 hx1), trivial⟩ ?_
  refine then_normal ?_
  refine awp_cond (!x1) (by kernel_rfl) (fun hb => ?_) (fun hb => ?_)
  · replace h := cond_t hb h
    clear hb
    refine awp_seq ?_
    refine awp_region (rs := []) (cs := [(2, (AV.list 2 eA2I64 ((0 : Int), (0 : Int)) ([] : List (Int × Int)) .exact))]) (live := [2]) (names := []) (st' := (⟨[(2, (AV.list 2 eA2I64 ((0 : Int), (0 : Int)) ([] : List (Int × Int)) .exact))], []⟩ : St)) (obs := [(AVle (.slice 0 0 (fun _ => []) .exact) (AV.list 2 eA2I64 ((0 : Int), (0 : Int)) ([] : List (Int × Int)) .exact))]) hn mix (no_hand hΓ) (by kernel_rfl) ⟨av_nil, trivial⟩ ?_
    refine then_normal ?_
    refine awp_le (st' := (⟨[(2, (AV.list 2 eA2I64 ((0 : Int), (0 : Int)) ([] : List (Int × Int)) (.own 6002)))], [(6002, .tok 2 36 (([] : List (Int × Int)).length))]⟩ : St)) (Le.trans (le_restrict_eq (st' := (⟨[(2, (AV.list 2 eA2I64 ((0 : Int), (0 : Int)) ([] : List (Int × Int)) .exact))], []⟩ : St)) [2] [] (by kernel_rfl) (no_hand hΓ)) (Le.trans (le_tag (t := 2) (nm := 6002) (sz' := 2) (fun i => eA2I64 (([] : List (Int × Int)).getD i ((0 : Int), (0 : Int)))) 36 rfl rfl (.inl ⟨rfl, rfl⟩)) (le_eq (st' := (⟨[(2, (AV.list 2 eA2I64 ((0 : Int), (0 : Int)) ([] : List (Int × Int)) (.own 6002)))], [(6002, .tok 2 36 (([] : List (Int × Int)).length))]⟩ : St)) (by kernel_rfl)))) ?_
    refine awp_ret ?_
    refine then_ret ?_
    obtain rfl := Option.some.inj h
    exact ⟨.inl rfl, [(6002, 20000)], by kernel_rfl⟩
  · replace h := cond_f hb h
    clear hb
    refine awp_skip ?_
    refine then_normal ?_
    refine awp_seq ?_
    refine awp_seq ?_
    refine awp_region (rs := []) (cs := []) (live := [1, 3, 4]) (names := [1]) (st' := (⟨[(1, (.ptr 1 0)), (3, (AV.list 2 eA2I64 ((0 : Int), (0 : Int)) ([] : List (Int × Int)) .exact)), (4, (.int .i64 (0 : Int)))], [(1, .row [(.int .i64 a_o.Kind), (.int .i64 a_o.Bits), (.int .i64 a_o.Lanes), (.int .i64 a_o.Dst), (AV.list 1 eI64 (0 : Int) a_o.Args .none), (.int .u64 a_o.Imm)])]⟩ : St)) (obs := []) hn mix (no_hand hΓ) (by kernel_rfl) trivial ?_
    refine then_normal ?_
    refine awp_block ?_
    refine awp_le (st' := (fun ((l2, i3) : (List ((Int × Int)) × Int)) => (⟨[(1, (.ptr 1 0)), (3, (AV.list 2 eA2I64 ((0 : Int), (0 : Int)) l2 (.own 5003))), (4, (.int .i64 i3))], [(1, .row [(.int .i64 a_o.Kind), (.int .i64 a_o.Bits), (.int .i64 a_o.Lanes), (.int .i64 a_o.Dst), (AV.list 1 eI64 (0 : Int) a_o.Args .none), (.int .u64 a_o.Imm)]), (5003, .tok 2 36 l2.length)]⟩ : St)) (([] : List (Int × Int)), (0 : Int))) (Le.trans (le_restrict_eq (st' := (⟨[(1, (.ptr 1 0)), (3, (AV.list 2 eA2I64 ((0 : Int), (0 : Int)) ([] : List (Int × Int)) .exact)), (4, (.int .i64 (0 : Int)))], [(1, .row [(.int .i64 a_o.Kind), (.int .i64 a_o.Bits), (.int .i64 a_o.Lanes), (.int .i64 a_o.Dst), (AV.list 1 eI64 (0 : Int) a_o.Args .none), (.int .u64 a_o.Imm)])]⟩ : St)) [1, 3, 4] [1] (by kernel_rfl) (no_hand hΓ)) (Le.trans (le_tag (t := 3) (nm := 5003) (sz' := 2) (fun i => eA2I64 (([] : List (Int × Int)).getD i ((0 : Int), (0 : Int)))) 36 rfl rfl (.inl ⟨rfl, rfl⟩)) (le_eq (st' := (⟨[(1, (.ptr 1 0)), (3, (AV.list 2 eA2I64 ((0 : Int), (0 : Int)) ([] : List (Int × Int)) (.own 5003))), (4, (.int .i64 (0 : Int)))], [(1, .row [(.int .i64 a_o.Kind), (.int .i64 a_o.Bits), (.int .i64 a_o.Lanes), (.int .i64 a_o.Dst), (AV.list 1 eI64 (0 : Int) a_o.Args .none), (.int .u64 a_o.Imm)]), (5003, .tok 2 36 (([] : List (Int × Int)).length))]⟩ : St)) (by kernel_rfl)))) ?_
    obtain ⟨x26, hx26, h⟩ := bind_some h
    refine awp_loop (fun ((l2, i3) : (List ((Int × Int)) × Int)) => (⟨[(1, (.ptr 1 0)), (3, (AV.list 2 eA2I64 ((0 : Int), (0 : Int)) l2 (.own 5003))), (4, (.int .i64 i3))], [(1, .row [(.int .i64 a_o.Kind), (.int .i64 a_o.Bits), (.int .i64 a_o.Lanes), (.int .i64 a_o.Dst), (AV.list 1 eI64 (0 : Int) a_o.Args .none), (.int .u64 a_o.Imm)]), (5003, .tok 2 36 l2.length)]⟩ : St)) _ (fun (l4 : List ((Int × Int))) (e : Exit) (st : St) => e = (.exit 0) ∧ Le Γ st (⟨[(3, (AV.list 2 eA2I64 ((0 : Int), (0 : Int)) l4 (.own 5003)))], [(5003, .tok 2 36 l4.length)]⟩ : St)) ?_ hx26 ?_
    · rintro ⟨l2, i3⟩ y h
      unfold m_lockstepref03_Takes_L1 at h
      refine awp_seq ?_
      refine awp_seq ?_
      refine awp_region (rs := []) (cs := []) (live := [1, 3, 4, 13]) (names := [1, 5003]) (st' := (⟨[(1, (.ptr 1 0)), (3, (AV.list 2 eA2I64 ((0 : Int), (0 : Int)) l2 (.own 5003))), (4, (.int .i64 i3)), (13, (.bool (decide ((i3 : Int) < (a_o.Args.length : Int)))))], [(1, .row [(.int .i64 a_o.Kind), (.int .i64 a_o.Bits), (.int .i64 a_o.Lanes), (.int .i64 a_o.Dst), (AV.list 1 eI64 (0 : Int) a_o.Args .none), (.int .u64 a_o.Imm)]), (5003, .tok 2 36 l2.length)]⟩ : St)) (obs := [(4 < List.length (α := AV) [(.int .i64 a_o.Kind), (.int .i64 a_o.Bits), (.int .i64 a_o.Lanes), (.int .i64 a_o.Dst), (AV.list 1 eI64 (0 : Int) a_o.Args .none), (.int .u64 a_o.Imm)])]) hn mix (no_hand hΓ) (by kernel_rfl) ⟨(Nat.le_of_ble_eq_true rfl), trivial⟩ ?_
      refine then_normal ?_
      refine awp_cond (decide ((i3 : Int) < (a_o.Args.length : Int))) (by kernel_rfl) (fun hb => ?_) (fun hb => ?_)
      · replace h := cond_t hb h
        clear hb
        refine awp_skip ?_
        refine then_normal ?_
        refine awp_seq ?_
        refine awp_block ?_
        refine awp_seq ?_
        refine awp_region (rs := []) (cs := []) (live := [1, 3, 4, 5]) (names := [1, 5, 5003]) (st' := (⟨[(1, (.ptr 1 0)), (3, (AV.list 2 eA2I64 ((0 : Int), (0 : Int)) l2 (.own 5003))), (4, (.int .i64 i3)), (5, (.ptr 5 0))], [(1, .row [(.int .i64 a_o.Kind), (.int .i64 a_o.Bits), (.int .i64 a_o.Lanes), (.int .i64 a_o.Dst), (AV.list 1 eI64 (0 : Int) a_o.Args .none), (.int .u64 a_o.Imm)]), (5, .row [(.int .i64 a_o.Bits), (.int .i64 a_o.Lanes)]), (5003, .tok 2 36 l2.length)]⟩ : St)) (obs := [(1 < List.length (α := AV) [(.int .i64 a_o.Kind), (.int .i64 a_o.Bits), (.int .i64 a_o.Lanes), (.int .i64 a_o.Dst), (AV.list 1 eI64 (0 : Int) a_o.Args .none), (.int .u64 a_o.Imm)]), (2 < List.length (α := AV) [(.int .i64 a_o.Kind), (.int .i64 a_o.Bits), (.int .i64 a_o.Lanes), (.int .i64 a_o.Dst), (AV.list 1 eI64 (0 : Int) a_o.Args .none), (.int .u64 a_o.Imm)]), (0 + List.length (α := AV) [(.int .i64 a_o.Bits), (.int .i64 a_o.Lanes)] ≤ List.length (α := AV) [(.int .i64 (0 : Int)), (.int .i64 (0 : Int))])]) hn mix (no_hand hΓ) (by kernel_rfl) ⟨(Nat.le_of_ble_eq_true rfl), (Nat.le_of_ble_eq_true rfl), (Nat.le_of_ble_eq_true rfl), trivial⟩ ?_
        refine then_normal ?_
        refine awp_seq ?_
        obtain ⟨x23, hx23, h⟩ := bind_some h
        refine awp_join (fun ((i5, i6) : (Int × Int)) (e : Exit) (st : St) => e = .normal ∧ Le Γ st (⟨[(1, (.ptr 1 0)), (3, (AV.list 2 eA2I64 ((0 : Int), (0 : Int)) l2 (.own 5003))), (4, (.int .i64 i3)), (5, (.ptr 5 0))], [(1, .row [(.int .i64 a_o.Kind), (.int .i64 a_o.Bits), (.int .i64 a_o.Lanes), (.int .i64 a_o.Dst), (AV.list 1 eI64 (0 : Int) a_o.Args .none), (.int .u64 a_o.Imm)]), (5, .row [(.int .i64 i5), (.int .i64 i6)]), (5003, .tok 2 36 l2.length)]⟩ : St)) hx23 ?_ ?_
        · clear h hx23
          intro y h
          refine awp_seq ?_
          refine awp_region (rs := []) (cs := []) (live := [1, 3, 4, 5, 22]) (names := [1, 5, 5003]) (st' := (⟨[(1, (.ptr 1 0)), (3, (AV.list 2 eA2I64 ((0 : Int), (0 : Int)) l2 (.own 5003))), (4, (.int .i64 i3)), (5, (.ptr 5 0)), (22, (.int .i64 a_o.Kind))], [(1, .row [(.int .i64 a_o.Kind), (.int .i64 a_o.Bits), (.int .i64 a_o.Lanes), (.int .i64 a_o.Dst), (AV.list 1 eI64 (0 : Int) a_o.Args .none), (.int .u64 a_o.Imm)]), (5, .row [(.int .i64 a_o.Bits), (.int .i64 a_o.Lanes)]), (5003, .tok 2 36 l2.length)]⟩ : St)) (obs := [(0 < List.length (α := AV) [(.int .i64 a_o.Kind), (.int .i64 a_o.Bits), (.int .i64 a_o.Lanes), (.int .i64 a_o.Dst), (AV.list 1 eI64 (0 : Int) a_o.Args .none), (.int .u64 a_o.Imm)])]) hn mix (no_hand hΓ) (by kernel_rfl) ⟨(Nat.le_of_ble_eq_true rfl), trivial⟩ ?_
          refine then_normal ?_
          refine awp_block ?_
          refine awp_seq ?_
          obtain ⟨x8, hx8, h⟩ := bind_some h
          refine awp_join (fun (b7 : Bool) (e : Exit) (st : St) => e = .normal ∧ Le Γ st (⟨[(1, (.ptr 1 0)), (3, (AV.list 2 eA2I64 ((0 : Int), (0 : Int)) l2 (.own 5003))), (4, (.int .i64 i3)), (5, (.ptr 5 0)), (22, (.int .i64 a_o.Kind)), (23, (.bool b7))], [(1, .row [(.int .i64 a_o.Kind), (.int .i64 a_o.Bits), (.int .i64 a_o.Lanes), (.int .i64 a_o.Dst), (AV.list 1 eI64 (0 : Int) a_o.Args .none), (.int .u64 a_o.Imm)]), (5, .row [(.int .i64 a_o.Bits), (.int .i64 a_o.Lanes)]), (5003, .tok 2 36 l2.length)]⟩ : St)) hx8 ?_ ?_
          · clear h hx8
            intro y h
            refine awp_seq ?_
            refine awp_region (rs := []) (cs := []) (live := [1, 3, 4, 5, 22, 23]) (names := [1, 5, 5003]) (st' := (⟨[(1, (.ptr 1 0)), (3, (AV.list 2 eA2I64 ((0 : Int), (0 : Int)) l2 (.own 5003))), (4, (.int .i64 i3)), (5, (.ptr 5 0)), (22, (.int .i64 a_o.Kind)), (23, (.bool ((a_o.Kind : Int) == (13 : Int))))], [(1, .row [(.int .i64 a_o.Kind), (.int .i64 a_o.Bits), (.int .i64 a_o.Lanes), (.int .i64 a_o.Dst), (AV.list 1 eI64 (0 : Int) a_o.Args .none), (.int .u64 a_o.Imm)]), (5, .row [(.int .i64 a_o.Bits), (.int .i64 a_o.Lanes)]), (5003, .tok 2 36 l2.length)]⟩ : St)) (obs := []) hn mix (no_hand hΓ) (by kernel_rfl) trivial ?_
            refine then_normal ?_
            refine awp_cond ((a_o.Kind : Int) == (13 : Int)) (by kernel_rfl) (fun hb => ?_) (fun hb => ?_)
            · replace h := cond_t hb h
              clear hb
              refine awp_skip ?_
              obtain rfl := Option.some.inj h
              exact ⟨rfl, Le.refl _ _⟩
            · replace h := cond_f hb h
              clear hb
              refine awp_region (rs := []) (cs := []) (live := [1, 3, 4, 5, 22, 23]) (names := [1, 5, 5003]) (st' := (⟨[(1, (.ptr 1 0)), (3, (AV.list 2 eA2I64 ((0 : Int), (0 : Int)) l2 (.own 5003))), (4, (.int .i64 i3)), (5, (.ptr 5 0)), (22, (.int .i64 a_o.Kind)), (23, (.bool ((a_o.Kind : Int) == (20 : Int))))], [(1, .row [(.int .i64 a_o.Kind), (.int .i64 a_o.Bits), (.int .i64 a_o.Lanes), (.int .i64 a_o.Dst), (AV.list 1 eI64 (0 : Int) a_o.Args .none), (.int .u64 a_o.Imm)]), (5, .row [(.int .i64 a_o.Bits), (.int .i64 a_o.Lanes)]), (5003, .tok 2 36 l2.length)]⟩ : St)) (obs := []) hn mix (no_hand hΓ) (by kernel_rfl) trivial ?_
              obtain rfl := Option.some.inj h
              exact ⟨rfl, Le.refl _ _⟩
          · clear hx8
            rintro e st' ⟨rfl, hl9⟩
            refine then_normal ?_
            refine awp_le hl9 ?_
            refine awp_cond x8 (by kernel_rfl) (fun hb => ?_) (fun hb => ?_)
            · replace h := cond_t hb h
              clear hb
              refine awp_seq ?_
              refine awp_region (rs := []) (cs := []) (live := [1, 3, 4, 5, 27]) (names := [1, 5, 5003]) (st' := (⟨[(1, (.ptr 1 0)), (3, (AV.list 2 eA2I64 ((0 : Int), (0 : Int)) l2 (.own 5003))), (4, (.int .i64 i3)), (5, (.ptr 5 0)), (27, (.bool ((i3 : Int) == (0 : Int))))], [(1, .row [(.int .i64 a_o.Kind), (.int .i64 a_o.Bits), (.int .i64 a_o.Lanes), (.int .i64 a_o.Dst), (AV.list 1 eI64 (0 : Int) a_o.Args .none), (.int .u64 a_o.Imm)]), (5, .row [(.int .i64 a_o.Bits), (.int .i64 a_o.Lanes)]), (5003, .tok 2 36 l2.length)]⟩ : St)) (obs := []) hn mix (no_hand hΓ) (by kernel_rfl) trivial ?_
              refine then_normal ?_
              refine awp_cond ((i3 : Int) == (0 : Int)) (by kernel_rfl) (fun hb => ?_) (fun hb => ?_)
              · replace h := cond_t hb h
                clear hb
                refine awp_region (rs := []) (cs := []) (live := [1, 3, 4, 5]) (names := [1, 5, 5003]) (st' := (⟨[(1, (.ptr 1 0)), (3, (AV.list 2 eA2I64 ((0 : Int), (0 : Int)) l2 (.own 5003))), (4, (.int .i64 i3)), (5, (.ptr 5 0))], [(1, .row [(.int .i64 a_o.Kind), (.int .i64 a_o.Bits), (.int .i64 a_o.Lanes), (.int .i64 a_o.Dst), (AV.list 1 eI64 (0 : Int) a_o.Args .none), (.int .u64 a_o.Imm)]), (5, .row [(.int .i64 (1 : Int)), (.int .i64 (1 : Int))]), (5003, .tok 2 36 l2.length)]⟩ : St)) (obs := [(0 + List.length (α := AV) [(.int .i64 (1 : Int)), (.int .i64 (1 : Int))] ≤ List.length (α := AV) [(.int .i64 a_o.Bits), (.int .i64 a_o.Lanes)])]) hn mix (no_hand hΓ) (by kernel_rfl) ⟨(Nat.le_of_ble_eq_true rfl), trivial⟩ ?_
                refine block_normal ?_
                obtain rfl := Option.some.inj h
                exact ⟨rfl, Le.refl _ _⟩
              · replace h := cond_f hb h
                clear hb
                refine awp_skip ?_
                refine block_normal ?_
                obtain rfl := Option.some.inj h
                exact ⟨rfl, le_restrict_eq [1, 3, 4, 5] [1, 5, 5003] (by kernel_rfl) (no_hand hΓ)⟩
            · replace h := cond_f hb h
              clear hb
              refine awp_seq ?_
              obtain ⟨x11, hx11, h⟩ := bind_some h
              refine awp_join (fun (b10 : Bool) (e : Exit) (st : St) => e = .normal ∧ Le Γ st (⟨[(1, (.ptr 1 0)), (3, (AV.list 2 eA2I64 ((0 : Int), (0 : Int)) l2 (.own 5003))), (4, (.int .i64 i3)), (5, (.ptr 5 0)), (22, (.int .i64 a_o.Kind)), (29, (.bool b10))], [(1, .row [(.int .i64 a_o.Kind), (.int .i64 a_o.Bits), (.int .i64 a_o.Lanes), (.int .i64 a_o.Dst), (AV.list 1 eI64 (0 : Int) a_o.Args .none), (.int .u64 a_o.Imm)]), (5, .row [(.int .i64 a_o.Bits), (.int .i64 a_o.Lanes)]), (5003, .tok 2 36 l2.length)]⟩ : St)) hx11 ?_ ?_
              · clear h hx11
                intro y h
                refine awp_seq ?_
                refine awp_region (rs := []) (cs := []) (live := [1, 3, 4, 5, 22, 29]) (names := [1, 5, 5003]) (st' := (⟨[(1, (.ptr 1 0)), (3, (AV.list 2 eA2I64 ((0 : Int), (0 : Int)) l2 (.own 5003))), (4, (.int .i64 i3)), (5, (.ptr 5 0)), (22, (.int .i64 a_o.Kind)), (29, (.bool ((a_o.Kind : Int) == (14 : Int))))], [(1, .row [(.int .i64 a_o.Kind), (.int .i64 a_o.Bits), (.int .i64 a_o.Lanes), (.int .i64 a_o.Dst), (AV.list 1 eI64 (0 : Int) a_o.Args .none), (.int .u64 a_o.Imm)]), (5, .row [(.int .i64 a_o.Bits), (.int .i64 a_o.Lanes)]), (5003, .tok 2 36 l2.length)]⟩ : St)) (obs := []) hn mix (no_hand hΓ) (by kernel_rfl) trivial ?_
                refine then_normal ?_
                refine awp_cond ((a_o.Kind : Int) == (14 : Int)) (by kernel_rfl) (fun hb => ?_) (fun hb => ?_)
                · replace h := cond_t hb h
                  clear hb
                  refine awp_skip ?_
                  obtain rfl := Option.some.inj h
                  exact ⟨rfl, Le.refl _ _⟩
                · replace h := cond_f hb h
                  clear hb
                  refine awp_region (rs := []) (cs := []) (live := [1, 3, 4, 5, 22, 29]) (names := [1, 5, 5003]) (st' := (⟨[(1, (.ptr 1 0)), (3, (AV.list 2 eA2I64 ((0 : Int), (0 : Int)) l2 (.own 5003))), (4, (.int .i64 i3)), (5, (.ptr 5 0)), (22, (.int .i64 a_o.Kind)), (29, (.bool ((a_o.Kind : Int) == (15 : Int))))], [(1, .row [(.int .i64 a_o.Kind), (.int .i64 a_o.Bits), (.int .i64 a_o.Lanes), (.int .i64 a_o.Dst), (AV.list 1 eI64 (0 : Int) a_o.Args .none), (.int .u64 a_o.Imm)]), (5, .row [(.int .i64 a_o.Bits), (.int .i64 a_o.Lanes)]), (5003, .tok 2 36 l2.length)]⟩ : St)) (obs := []) hn mix (no_hand hΓ) (by kernel_rfl) trivial ?_
                  obtain rfl := Option.some.inj h
                  exact ⟨rfl, Le.refl _ _⟩
              · clear hx11
                rintro e st' ⟨rfl, hl12⟩
                refine then_normal ?_
                refine awp_le hl12 ?_
                refine awp_cond x11 (by kernel_rfl) (fun hb => ?_) (fun hb => ?_)
                · replace h := cond_t hb h
                  clear hb
                  refine awp_region (rs := []) (cs := []) (live := [1, 3, 4, 5]) (names := [1, 5, 5003]) (st' := (⟨[(1, (.ptr 1 0)), (3, (AV.list 2 eA2I64 ((0 : Int), (0 : Int)) l2 (.own 5003))), (4, (.int .i64 i3)), (5, (.ptr 5 0))], [(1, .row [(.int .i64 a_o.Kind), (.int .i64 a_o.Bits), (.int .i64 a_o.Lanes), (.int .i64 a_o.Dst), (AV.list 1 eI64 (0 : Int) a_o.Args .none), (.int .u64 a_o.Imm)]), (5, .row [(.int .i64 (w64 a_o.Imm)), (.int .i64 (1 : Int))]), (5003, .tok 2 36 l2.length)]⟩ : St)) (obs := [(5 < List.length (α := AV) [(.int .i64 a_o.Kind), (.int .i64 a_o.Bits), (.int .i64 a_o.Lanes), (.int .i64 a_o.Dst), (AV.list 1 eI64 (0 : Int) a_o.Args .none), (.int .u64 a_o.Imm)]), (0 + List.length (α := AV) [(.int .i64 (w64 a_o.Imm)), (.int .i64 (1 : Int))] ≤ List.length (α := AV) [(.int .i64 a_o.Bits), (.int .i64 a_o.Lanes)])]) hn mix (no_hand hΓ) (by kernel_rfl) ⟨(Nat.le_of_ble_eq_true rfl), (Nat.le_of_ble_eq_true rfl), trivial⟩ ?_
                  refine block_normal ?_
                  obtain rfl := Option.some.inj h
                  exact ⟨rfl, Le.refl _ _⟩
                · replace h := cond_f hb h
                  clear hb
                  refine awp_seq ?_
                  obtain ⟨x14, hx14, h⟩ := bind_some h
                  refine awp_join (fun (b13 : Bool) (e : Exit) (st : St) => e = .normal ∧ Le Γ st (⟨[(1, (.ptr 1 0)), (3, (AV.list 2 eA2I64 ((0 : Int), (0 : Int)) l2 (.own 5003))), (4, (.int .i64 i3)), (5, (.ptr 5 0)), (22, (.int .i64 a_o.Kind)), (36, (.bool b13))], [(1, .row [(.int .i64 a_o.Kind), (.int .i64 a_o.Bits), (.int .i64 a_o.Lanes), (.int .i64 a_o.Dst), (AV.list 1 eI64 (0 : Int) a_o.Args .none), (.int .u64 a_o.Imm)]), (5, .row [(.int .i64 a_o.Bits), (.int .i64 a_o.Lanes)]), (5003, .tok 2 36 l2.length)]⟩ : St)) hx14 ?_ ?_
                  · clear h hx14
                    intro y h
                    refine awp_seq ?_
                    refine awp_region (rs := []) (cs := []) (live := [1, 3, 4, 5, 22, 36]) (names := [1, 5, 5003]) (st' := (⟨[(1, (.ptr 1 0)), (3, (AV.list 2 eA2I64 ((0 : Int), (0 : Int)) l2 (.own 5003))), (4, (.int .i64 i3)), (5, (.ptr 5 0)), (22, (.int .i64 a_o.Kind)), (36, (.bool ((a_o.Kind : Int) == (16 : Int))))], [(1, .row [(.int .i64 a_o.Kind), (.int .i64 a_o.Bits), (.int .i64 a_o.Lanes), (.int .i64 a_o.Dst), (AV.list 1 eI64 (0 : Int) a_o.Args .none), (.int .u64 a_o.Imm)]), (5, .row [(.int .i64 a_o.Bits), (.int .i64 a_o.Lanes)]), (5003, .tok 2 36 l2.length)]⟩ : St)) (obs := []) hn mix (no_hand hΓ) (by kernel_rfl) trivial ?_
                    refine then_normal ?_
                    refine awp_cond ((a_o.Kind : Int) == (16 : Int)) (by kernel_rfl) (fun hb => ?_) (fun hb => ?_)
                    · replace h := cond_t hb h
                      clear hb
                      refine awp_skip ?_
                      obtain rfl := Option.some.inj h
                      exact ⟨rfl, Le.refl _ _⟩
                    · replace h := cond_f hb h
                      clear hb
                      refine awp_region (rs := []) (cs := []) (live := [1, 3, 4, 5, 22, 36]) (names := [1, 5, 5003]) (st' := (⟨[(1, (.ptr 1 0)), (3, (AV.list 2 eA2I64 ((0 : Int), (0 : Int)) l2 (.own 5003))), (4, (.int .i64 i3)), (5, (.ptr 5 0)), (22, (.int .i64 a_o.Kind)), (36, (.bool ((a_o.Kind : Int) == (17 : Int))))], [(1, .row [(.int .i64 a_o.Kind), (.int .i64 a_o.Bits), (.int .i64 a_o.Lanes), (.int .i64 a_o.Dst), (AV.list 1 eI64 (0 : Int) a_o.Args .none), (.int .u64 a_o.Imm)]), (5, .row [(.int .i64 a_o.Bits), (.int .i64 a_o.Lanes)]), (5003, .tok 2 36 l2.length)]⟩ : St)) (obs := []) hn mix (no_hand hΓ) (by kernel_rfl) trivial ?_
                      obtain rfl := Option.some.inj h
                      exact ⟨rfl, Le.refl _ _⟩
                  · clear hx14
                    rintro e st' ⟨rfl, hl15⟩
                    refine then_normal ?_
                    refine awp_le hl15 ?_
                    refine awp_cond x14 (by kernel_rfl) (fun hb => ?_) (fun hb => ?_)
                    · replace h := cond_t hb h
                      clear hb
                      refine awp_seq ?_
                      refine awp_region (rs := []) (cs := []) (live := [1, 3, 4, 5, 40]) (names := [1, 5, 5003]) (st' := (⟨[(1, (.ptr 1 0)), (3, (AV.list 2 eA2I64 ((0 : Int), (0 : Int)) l2 (.own 5003))), (4, (.int .i64 i3)), (5, (.ptr 5 0)), (40, (.bool ((i3 : Int) == (0 : Int))))], [(1, .row [(.int .i64 a_o.Kind), (.int .i64 a_o.Bits), (.int .i64 a_o.Lanes), (.int .i64 a_o.Dst), (AV.list 1 eI64 (0 : Int) a_o.Args .none), (.int .u64 a_o.Imm)]), (5, .row [(.int .i64 a_o.Bits), (.int .i64 a_o.Lanes)]), (5003, .tok 2 36 l2.length)]⟩ : St)) (obs := []) hn mix (no_hand hΓ) (by kernel_rfl) trivial ?_
                      refine then_normal ?_
                      refine awp_cond ((i3 : Int) == (0 : Int)) (by kernel_rfl) (fun hb => ?_) (fun hb => ?_)
                      · replace h := cond_t hb h
                        clear hb
                        refine awp_region (rs := []) (cs := []) (live := [1, 3, 4, 5]) (names := [1, 5, 5003]) (st' := (⟨[(1, (.ptr 1 0)), (3, (AV.list 2 eA2I64 ((0 : Int), (0 : Int)) l2 (.own 5003))), (4, (.int .i64 i3)), (5, (.ptr 5 0))], [(1, .row [(.int .i64 a_o.Kind), (.int .i64 a_o.Bits), (.int .i64 a_o.Lanes), (.int .i64 a_o.Dst), (AV.list 1 eI64 (0 : Int) a_o.Args .none), (.int .u64 a_o.Imm)]), (5, .row [(.int .i64 (64 : Int)), (.int .i64 (1 : Int))]), (5003, .tok 2 36 l2.length)]⟩ : St)) (obs := [(0 + List.length (α := AV) [(.int .i64 (64 : Int)), (.int .i64 (1 : Int))] ≤ List.length (α := AV) [(.int .i64 a_o.Bits), (.int .i64 a_o.Lanes)])]) hn mix (no_hand hΓ) (by kernel_rfl) ⟨(Nat.le_of_ble_eq_true rfl), trivial⟩ ?_
                        refine block_normal ?_
                        obtain rfl := Option.some.inj h
                        exact ⟨rfl, Le.refl _ _⟩
                      · replace h := cond_f hb h
                        clear hb
                        refine awp_skip ?_
                        refine block_normal ?_
                        obtain rfl := Option.some.inj h
                        exact ⟨rfl, le_restrict_eq [1, 3, 4, 5] [1, 5, 5003] (by kernel_rfl) (no_hand hΓ)⟩
                    · replace h := cond_f hb h
                      clear hb
                      refine awp_seq ?_
                      obtain ⟨x17, hx17, h⟩ := bind_some h
                      refine awp_join (fun (b16 : Bool) (e : Exit) (st : St) => e = .normal ∧ Le Γ st (⟨[(1, (.ptr 1 0)), (3, (AV.list 2 eA2I64 ((0 : Int), (0 : Int)) l2 (.own 5003))), (4, (.int .i64 i3)), (5, (.ptr 5 0)), (22, (.int .i64 a_o.Kind)), (42, (.bool b16))], [(1, .row [(.int .i64 a_o.Kind), (.int .i64 a_o.Bits), (.int .i64 a_o.Lanes), (.int .i64 a_o.Dst), (AV.list 1 eI64 (0 : Int) a_o.Args .none), (.int .u64 a_o.Imm)]), (5, .row [(.int .i64 a_o.Bits), (.int .i64 a_o.Lanes)]), (5003, .tok 2 36 l2.length)]⟩ : St)) hx17 ?_ ?_
                      · clear h hx17
                        intro y h
                        refine awp_seq ?_
                        refine awp_region (rs := []) (cs := []) (live := [1, 3, 4, 5, 22, 42]) (names := [1, 5, 5003]) (st' := (⟨[(1, (.ptr 1 0)), (3, (AV.list 2 eA2I64 ((0 : Int), (0 : Int)) l2 (.own 5003))), (4, (.int .i64 i3)), (5, (.ptr 5 0)), (22, (.int .i64 a_o.Kind)), (42, (.bool ((a_o.Kind : Int) == (18 : Int))))], [(1, .row [(.int .i64 a_o.Kind), (.int .i64 a_o.Bits), (.int .i64 a_o.Lanes), (.int .i64 a_o.Dst), (AV.list 1 eI64 (0 : Int) a_o.Args .none), (.int .u64 a_o.Imm)]), (5, .row [(.int .i64 a_o.Bits), (.int .i64 a_o.Lanes)]), (5003, .tok 2 36 l2.length)]⟩ : St)) (obs := []) hn mix (no_hand hΓ) (by kernel_rfl) trivial ?_
                        refine then_normal ?_
                        refine awp_cond ((a_o.Kind : Int) == (18 : Int)) (by kernel_rfl) (fun hb => ?_) (fun hb => ?_)
                        · replace h := cond_t hb h
                          clear hb
                          refine awp_skip ?_
                          obtain rfl := Option.some.inj h
                          exact ⟨rfl, Le.refl _ _⟩
                        · replace h := cond_f hb h
                          clear hb
                          refine awp_region (rs := []) (cs := []) (live := [1, 3, 4, 5, 22, 42]) (names := [1, 5, 5003]) (st' := (⟨[(1, (.ptr 1 0)), (3, (AV.list 2 eA2I64 ((0 : Int), (0 : Int)) l2 (.own 5003))), (4, (.int .i64 i3)), (5, (.ptr 5 0)), (22, (.int .i64 a_o.Kind)), (42, (.bool ((a_o.Kind : Int) == (19 : Int))))], [(1, .row [(.int .i64 a_o.Kind), (.int .i64 a_o.Bits), (.int .i64 a_o.Lanes), (.int .i64 a_o.Dst), (AV.list 1 eI64 (0 : Int) a_o.Args .none), (.int .u64 a_o.Imm)]), (5, .row [(.int .i64 a_o.Bits), (.int .i64 a_o.Lanes)]), (5003, .tok 2 36 l2.length)]⟩ : St)) (obs := []) hn mix (no_hand hΓ) (by kernel_rfl) trivial ?_
                          obtain rfl := Option.some.inj h
                          exact ⟨rfl, Le.refl _ _⟩
                      · clear hx17
                        rintro e st' ⟨rfl, hl18⟩
                        refine then_normal ?_
                        refine awp_le hl18 ?_
                        refine awp_cond x17 (by kernel_rfl) (fun hb => ?_) (fun hb => ?_)
                        · replace h := cond_t hb h
                          clear hb
                          refine awp_seq ?_
                          obtain ⟨x21, hx21, h⟩ := bind_some h
                          refine awp_join (fun ((i19, i20) : (Int × Int)) (e : Exit) (st : St) => e = .normal ∧ Le Γ st (⟨[(1, (.ptr 1 0)), (3, (AV.list 2 eA2I64 ((0 : Int), (0 : Int)) l2 (.own 5003))), (4, (.int .i64 i3)), (5, (.ptr 5 0))], [(1, .row [(.int .i64 a_o.Kind), (.int .i64 a_o.Bits), (.int .i64 a_o.Lanes), (.int .i64 a_o.Dst), (AV.list 1 eI64 (0 : Int) a_o.Args .none), (.int .u64 a_o.Imm)]), (5, .row [(.int .i64 i19), (.int .i64 i20)]), (5003, .tok 2 36 l2.length)]⟩ : St)) hx21 ?_ ?_
                          · clear h hx21
                            intro y h
                            refine awp_seq ?_
                            refine awp_region (rs := []) (cs := []) (live := [1, 3, 4, 5, 46]) (names := [1, 5, 5003]) (st' := (⟨[(1, (.ptr 1 0)), (3, (AV.list 2 eA2I64 ((0 : Int), (0 : Int)) l2 (.own 5003))), (4, (.int .i64 i3)), (5, (.ptr 5 0)), (46, (.bool ((i3 : Int) == (0 : Int))))], [(1, .row [(.int .i64 a_o.Kind), (.int .i64 a_o.Bits), (.int .i64 a_o.Lanes), (.int .i64 a_o.Dst), (AV.list 1 eI64 (0 : Int) a_o.Args .none), (.int .u64 a_o.Imm)]), (5, .row [(.int .i64 a_o.Bits), (.int .i64 a_o.Lanes)]), (5003, .tok 2 36 l2.length)]⟩ : St)) (obs := []) hn mix (no_hand hΓ) (by kernel_rfl) trivial ?_
                            refine then_normal ?_
                            refine awp_cond ((i3 : Int) == (0 : Int)) (by kernel_rfl) (fun hb => ?_) (fun hb => ?_)
                            · replace h := cond_t hb h
                              clear hb
                              refine awp_region (rs := []) (cs := []) (live := [1, 3, 4, 5]) (names := [1, 5, 5003]) (st' := (⟨[(1, (.ptr 1 0)), (3, (AV.list 2 eA2I64 ((0 : Int), (0 : Int)) l2 (.own 5003))), (4, (.int .i64 i3)), (5, (.ptr 5 0))], [(1, .row [(.int .i64 a_o.Kind), (.int .i64 a_o.Bits), (.int .i64 a_o.Lanes), (.int .i64 a_o.Dst), (AV.list 1 eI64 (0 : Int) a_o.Args .none), (.int .u64 a_o.Imm)]), (5, .row [(.int .i64 (1 : Int)), (.int .i64 (1 : Int))]), (5003, .tok 2 36 l2.length)]⟩ : St)) (obs := [(0 + List.length (α := AV) [(.int .i64 (1 : Int)), (.int .i64 (1 : Int))] ≤ List.length (α := AV) [(.int .i64 a_o.Bits), (.int .i64 a_o.Lanes)])]) hn mix (no_hand hΓ) (by kernel_rfl) ⟨(Nat.le_of_ble_eq_true rfl), trivial⟩ ?_
                              obtain rfl := Option.some.inj h
                              exact ⟨rfl, Le.refl _ _⟩
                            · replace h := cond_f hb h
                              clear hb
                              refine awp_skip ?_
                              obtain rfl := Option.some.inj h
                              exact ⟨rfl, le_restrict_eq [1, 3, 4, 5] [1, 5, 5003] (by kernel_rfl) (no_hand hΓ)⟩
                          · clear hx21
                            rcases x21 with ⟨i19, i20⟩
                            rintro e st' ⟨rfl, hl22⟩
                            refine then_normal ?_
                            refine awp_le hl22 ?_
                            refine awp_seq ?_
                            refine awp_region (rs := []) (cs := []) (live := [1, 3, 4, 5, 49]) (names := [1, 5, 5003]) (st' := (⟨[(1, (.ptr 1 0)), (3, (AV.list 2 eA2I64 ((0 : Int), (0 : Int)) l2 (.own 5003))), (4, (.int .i64 i3)), (5, (.ptr 5 0)), (49, (.bool ((i3 : Int) == (1 : Int))))], [(1, .row [(.int .i64 a_o.Kind), (.int .i64 a_o.Bits), (.int .i64 a_o.Lanes), (.int .i64 a_o.Dst), (AV.list 1 eI64 (0 : Int) a_o.Args .none), (.int .u64 a_o.Imm)]), (5, .row [(.int .i64 i19), (.int .i64 i20)]), (5003, .tok 2 36 l2.length)]⟩ : St)) (obs := []) hn mix (no_hand hΓ) (by kernel_rfl) trivial ?_
                            refine then_normal ?_
                            refine awp_cond ((i3 : Int) == (1 : Int)) (by kernel_rfl) (fun hb => ?_) (fun hb => ?_)
                            · replace h := cond_t hb h
                              clear hb
                              refine awp_region (rs := []) (cs := []) (live := [1, 3, 4, 5]) (names := [1, 5, 5003]) (st' := (⟨[(1, (.ptr 1 0)), (3, (AV.list 2 eA2I64 ((0 : Int), (0 : Int)) l2 (.own 5003))), (4, (.int .i64 i3)), (5, (.ptr 5 0))], [(1, .row [(.int .i64 a_o.Kind), (.int .i64 a_o.Bits), (.int .i64 a_o.Lanes), (.int .i64 a_o.Dst), (AV.list 1 eI64 (0 : Int) a_o.Args .none), (.int .u64 a_o.Imm)]), (5, .row [(.int .i64 (64 : Int)), (.int .i64 (1 : Int))]), (5003, .tok 2 36 l2.length)]⟩ : St)) (obs := [(0 + List.length (α := AV) [(.int .i64 (64 : Int)), (.int .i64 (1 : Int))] ≤ List.length (α := AV) [(.int .i64 i19), (.int .i64 i20)])]) hn mix (no_hand hΓ) (by kernel_rfl) ⟨(Nat.le_of_ble_eq_true rfl), trivial⟩ ?_
                              refine block_normal ?_
                              obtain rfl := Option.some.inj h
                              exact ⟨rfl, Le.refl _ _⟩
                            · replace h := cond_f hb h
                              clear hb
                              refine awp_skip ?_
                              refine block_normal ?_
                              obtain rfl := Option.some.inj h
                              exact ⟨rfl, le_restrict_eq [1, 3, 4, 5] [1, 5, 5003] (by kernel_rfl) (no_hand hΓ)⟩
                        · replace h := cond_f hb h
                          clear hb
                          refine awp_seq ?_
                          refine awp_region (rs := []) (cs := []) (live := [1, 3, 4, 5, 51]) (names := [1, 5, 5003]) (st' := (⟨[(1, (.ptr 1 0)), (3, (AV.list 2 eA2I64 ((0 : Int), (0 : Int)) l2 (.own 5003))), (4, (.int .i64 i3)), (5, (.ptr 5 0)), (51, (.bool ((a_o.Kind : Int) == (21 : Int))))], [(1, .row [(.int .i64 a_o.Kind), (.int .i64 a_o.Bits), (.int .i64 a_o.Lanes), (.int .i64 a_o.Dst), (AV.list 1 eI64 (0 : Int) a_o.Args .none), (.int .u64 a_o.Imm)]), (5, .row [(.int .i64 a_o.Bits), (.int .i64 a_o.Lanes)]), (5003, .tok 2 36 l2.length)]⟩ : St)) (obs := []) hn mix (no_hand hΓ) (by kernel_rfl) trivial ?_
                          refine then_normal ?_
                          refine awp_cond ((a_o.Kind : Int) == (21 : Int)) (by kernel_rfl) (fun hb => ?_) (fun hb => ?_)
                          · replace h := cond_t hb h
                            clear hb
                            refine awp_region (rs := []) (cs := []) (live := [1, 3, 4, 5]) (names := [1, 5, 5003]) (st' := (⟨[(1, (.ptr 1 0)), (3, (AV.list 2 eA2I64 ((0 : Int), (0 : Int)) l2 (.own 5003))), (4, (.int .i64 i3)), (5, (.ptr 5 0))], [(1, .row [(.int .i64 a_o.Kind), (.int .i64 a_o.Bits), (.int .i64 a_o.Lanes), (.int .i64 a_o.Dst), (AV.list 1 eI64 (0 : Int) a_o.Args .none), (.int .u64 a_o.Imm)]), (5, .row [(.int .i64 a_o.Bits), (.int .i64 (1 : Int))]), (5003, .tok 2 36 l2.length)]⟩ : St)) (obs := [(1 < List.length (α := AV) [(.int .i64 a_o.Kind), (.int .i64 a_o.Bits), (.int .i64 a_o.Lanes), (.int .i64 a_o.Dst), (AV.list 1 eI64 (0 : Int) a_o.Args .none), (.int .u64 a_o.Imm)]), (0 + List.length (α := AV) [(.int .i64 a_o.Bits), (.int .i64 (1 : Int))] ≤ List.length (α := AV) [(.int .i64 a_o.Bits), (.int .i64 a_o.Lanes)])]) hn mix (no_hand hΓ) (by kernel_rfl) ⟨(Nat.le_of_ble_eq_true rfl), (Nat.le_of_ble_eq_true rfl), trivial⟩ ?_
                            refine block_normal ?_
                            obtain rfl := Option.some.inj h
                            exact ⟨rfl, Le.refl _ _⟩
                          · replace h := cond_f hb h
                            clear hb
                            refine awp_skip ?_
                            refine block_normal ?_
                            obtain rfl := Option.some.inj h
                            exact ⟨rfl, le_restrict_eq [1, 3, 4, 5] [1, 5, 5003] (by kernel_rfl) (no_hand hΓ)⟩
        · clear hx23
          rcases x23 with ⟨i5, i6⟩
          rintro e st' ⟨rfl, hl24⟩
          refine then_normal ?_
          refine awp_le hl24 ?_
          obtain ⟨hc25, h⟩ := chk_some h
          refine awp_region (rs := []) (cs := [(58, (AV.list 2 eA2I64 ((0 : Int), (0 : Int)) ([(i5, i6)] : List ((Int × Int))) .exact)), (59, (AV.list 2 eA2I64 ((0 : Int), (0 : Int)) (l2 ++ ([(i5, i6)] : List ((Int × Int)))) (.own 5003)))]) (live := [1, 3, 4]) (names := [1, 5003]) (st' := (⟨[(1, (.ptr 1 0)), (3, (AV.list 2 eA2I64 ((0 : Int), (0 : Int)) (l2 ++ ([(i5, i6)] : List ((Int × Int)))) (.own 5003))), (4, (.int .i64 i3))], [(1, .row [(.int .i64 a_o.Kind), (.int .i64 a_o.Bits), (.int .i64 a_o.Lanes), (.int .i64 a_o.Dst), (AV.list 1 eI64 (0 : Int) a_o.Args .none), (.int .u64 a_o.Imm)]), (5003, .tok 2 36 ((l2 ++ ([(i5, i6)] : List ((Int × Int)))).length))]⟩ : St)) (obs := [(0 + 2 ≤ List.length (α := AV) [(.int .i64 i5), (.int .i64 i6)]), (AVle (.slice 2 1 (fun i => ([[(.int .i64 i5), (.int .i64 i6)]] : List (List AV)).getD i []) .exact) (AV.list 2 eA2I64 ((0 : Int), (0 : Int)) ([(i5, i6)] : List ((Int × Int))) .exact)), (l2.length = l2.length), (l2.length + ([(i5, i6)] : List ((Int × Int))).length ≤ room), (AVle (.slice 2 (l2.length + ([(i5, i6)] : List ((Int × Int))).length) (appF l2.length (fun i => eA2I64 (l2.getD i ((0 : Int), (0 : Int)))) (fun i => eA2I64 (([(i5, i6)] : List ((Int × Int))).getD i ((0 : Int), (0 : Int))))) (.own 5003)) (AV.list 2 eA2I64 ((0 : Int), (0 : Int)) (l2 ++ ([(i5, i6)] : List ((Int × Int)))) (.own 5003))), (l2.length + ([(i5, i6)] : List ((Int × Int))).length = (l2 ++ ([(i5, i6)] : List ((Int × Int)))).length)]) hn mix (no_hand hΓ) (by kernel_rfl) ⟨(Nat.le_of_ble_eq_true rfl), (av_lit rfl (fun i hi => map_get (e := eA2I64) (d := ((0 : Int), (0 : Int))) ([(i5, i6)] : List ((Int × Int))) i hi)), rfl, hc25, av_app, (len_app _ _), trivial⟩ ?_
          refine block_normal ?_
          refine then_normal ?_
          refine awp_region (rs := []) (cs := []) (live := [1, 3, 4]) (names := [1, 5003]) (st' := (⟨[(1, (.ptr 1 0)), (3, (AV.list 2 eA2I64 ((0 : Int), (0 : Int)) (l2 ++ ([(i5, i6)] : List ((Int × Int)))) (.own 5003))), (4, (.int .i64 (w64 (i3 + (1 : Int)))))], [(1, .row [(.int .i64 a_o.Kind), (.int .i64 a_o.Bits), (.int .i64 a_o.Lanes), (.int .i64 a_o.Dst), (AV.list 1 eI64 (0 : Int) a_o.Args .none), (.int .u64 a_o.Imm)]), (5003, .tok 2 36 ((l2 ++ ([(i5, i6)] : List ((Int × Int)))).length))]⟩ : St)) (obs := []) hn mix (no_hand hΓ) (by kernel_rfl) trivial ?_
          obtain rfl := Option.some.inj h
          exact ⟨rfl, Le.refl _ _⟩
      · replace h := cond_f hb h
        clear hb
        refine awp_exit ?_
        refine then_exit ?_
        obtain rfl := Option.some.inj h
        exact ⟨(by intro hh; cases hh), rfl, le_restrict_eq [3] [5003] (by kernel_rfl) (no_hand hΓ)⟩
    · clear hx26
      rintro e st' ⟨rfl, hl27⟩
      refine block_here ?_
      refine then_normal ?_
      refine awp_le hl27 ?_
      refine awp_seq ?_
      refine awp_region (rs := []) (cs := []) (live := [2]) (names := [5003]) (st' := (⟨[(2, (AV.list 2 eA2I64 ((0 : Int), (0 : Int)) x26 (.own 5003)))], [(5003, .tok 2 36 x26.length)]⟩ : St)) (obs := []) hn mix (no_hand hΓ) (by kernel_rfl) trivial ?_
      refine then_normal ?_
      refine awp_ret ?_
      obtain rfl := Option.some.inj h
      exact ⟨.inl rfl, [(5003, 20000)], by kernel_rfl⟩

noncomputable def m_locksteplaw03_shapes_L1 (a_a : List ((Int × Int))) (a_b : List ((Int × Int))) : Int → Option (LR Int (Unit ⊕ Bool)) :=
  fun (i1 : Int) => (bif (decide ((i1 : Int) < (a_a.length : Int))) then (chk (InB i1 a_a.length) (chk (InB i1 a_b.length) (bif (!((((a_a.getD (i1).toNat ((0 : Int), (0 : Int))).1 : Int) == (a_b.getD (i1).toNat ((0 : Int), (0 : Int))).1) && ((((a_a.getD (i1).toNat ((0 : Int), (0 : Int))).2 : Int) == (a_b.getD (i1).toNat ((0 : Int), (0 : Int))).2) && true))) then (some (.done (.inr false))) else (some (.next (w64 (i1 + (1 : Int)))))))) else (some (.done (.inl ()))))
noncomputable def m_locksteplaw03_shapes (a_a : List ((Int × Int))) (a_b : List ((Int × Int))) : Option Bool :=
  (bif (((a_a.length : Int) : Int) != (a_b.length : Int)) then (some false) else ((loopO (S := Int) (X := (Unit ⊕ Bool)) (m_locksteplaw03_shapes_L1 a_a a_b) (0 : Int)).bind (fun x4 => (match x4 with | (.inl _) => (some true) | (.inr r6) => (some r6)))))
theorem ok_locksteplaw03_shapes (a_a : List ((Int × Int))) (a_b : List ((Int × Int))) (r : Bool) (h : m_locksteplaw03_shapes a_a a_b = some r) : Spec Try.prog 14 [(AV.list 2 eA2I64 ((0 : Int), (0 : Int)) a_a .none), (AV.list 2 eA2I64 ((0 : Int), (0 : Int)) a_b .none)] [] (.bool r) [] := by
  refine spec_of_awp (fn := Try.f14) Try.func14 rfl rfl (by kernel_rfl) (fun Γ hn hΓ => ?_)
  have hn : Γ.n = 26 := hn
  unfold m_locksteplaw03_shapes at h
  refine awp_seq ?_
  refine awp_region (rs := []) (cs := []) (live := [0, 1]) (names := []) (st' := (⟨[(0, (AV.list 2 eA2I64 ((0 : Int), (0 : Int)) a_a .none)), (1, (AV.list 2 eA2I64 ((0 : Int), (0 : Int)) a_b .none))], []⟩ : St)) (obs := []) hn mix (no_hand hΓ) (by kernel_rfl) trivial ?_
  refine then_normal ?_
  refine awp_seq ?_
  refine awp_seq ?_
  refine awp_region (rs := []) (cs := []) (live := [0, 1, 10]) (names := []) (st' := (⟨[(0, (AV.list 2 eA2I64 ((0 : Int), (0 : Int)) a_a .none)), (1, (AV.list 2 eA2I64 ((0 : Int), (0 : Int)) a_b .none)), (10, (.bool (((a_a.length : Int) : Int) != (a_b.length : Int))))], []⟩ : St)) (obs := []) hn mix (no_hand hΓ) (by kernel_rfl) trivial ?_
  refine then_normal ?_
  refine awp_cond (((a_a.length : Int) : Int) != (a_b.length : Int)) (by kernel_rfl) (fun hb => ?_) (fun hb => ?_)
  · replace h := cond_t hb h
    clear hb
    refine awp_seq ?_
    refine awp_region (rs := []) (cs := []) (live := [4]) (names := []) (st' := (⟨[(4, (.bool false))], []⟩ : St)) (obs := []) hn mix (no_hand hΓ) (by kernel_rfl) trivial ?_
    refine then_normal ?_
    refine awp_ret ?_
    refine then_ret ?_
    obtain rfl := Option.some.inj h
    exact ⟨.inl rfl, [], by kernel_rfl⟩
  · replace h := cond_f hb h
    clear hb
    refine awp_skip ?_
    refine then_normal ?_
    refine awp_seq ?_
    refine awp_seq ?_
    refine awp_region (rs := []) (cs := []) (live := [0, 1, 5]) (names := []) (st' := (⟨[(0, (AV.list 2 eA2I64 ((0 : Int), (0 : Int)) a_a .none)), (1, (AV.list 2 eA2I64 ((0 : Int), (0 : Int)) a_b .none)), (5, (.int .i64 (0 : Int)))], []⟩ : St)) (obs := []) hn mix (no_hand hΓ) (by kernel_rfl) trivial ?_
    refine then_normal ?_
    refine awp_block ?_
    refine awp_le (st' := (fun (i1 : Int) => (⟨[(0, (AV.list 2 eA2I64 ((0 : Int), (0 : Int)) a_a .none)), (1, (AV.list 2 eA2I64 ((0 : Int), (0 : Int)) a_b .none)), (5, (.int .i64 i1))], []⟩ : St)) (0 : Int)) (Le.refl _ _) ?_
    obtain ⟨x4, hx4, h⟩ := bind_some h
    refine awp_loop (fun (i1 : Int) => (⟨[(0, (AV.list 2 eA2I64 ((0 : Int), (0 : Int)) a_a .none)), (1, (AV.list 2 eA2I64 ((0 : Int), (0 : Int)) a_b .none)), (5, (.int .i64 i1))], []⟩ : St)) _ (fun (x_ : (Unit ⊕ Bool)) (e : Exit) (st : St) => match x_ with | (.inl _) => e = (.exit 0) ∧ Le Γ st (⟨[], []⟩ : St) | (.inr r_) => e = .ret ∧ retK Try.prog Try.f14.results.toList [] (.bool r_) [] e st) ?_ hx4 ?_
    · intro i1 y h
      unfold m_locksteplaw03_shapes_L1 at h
      refine awp_seq ?_
      refine awp_seq ?_
      refine awp_region (rs := []) (cs := []) (live := [0, 1, 5, 14]) (names := []) (st' := (⟨[(0, (AV.list 2 eA2I64 ((0 : Int), (0 : Int)) a_a .none)), (1, (AV.list 2 eA2I64 ((0 : Int), (0 : Int)) a_b .none)), (5, (.int .i64 i1)), (14, (.bool (decide ((i1 : Int) < (a_a.length : Int)))))], []⟩ : St)) (obs := []) hn mix (no_hand hΓ) (by kernel_rfl) trivial ?_
      refine then_normal ?_
      refine awp_cond (decide ((i1 : Int) < (a_a.length : Int))) (by kernel_rfl) (fun hb => ?_) (fun hb => ?_)
      · replace h := cond_t hb h
        clear hb
        refine awp_skip ?_
        refine then_normal ?_
        refine awp_seq ?_
        refine awp_block ?_
        refine awp_seq ?_
        obtain ⟨hc2, h⟩ := chk_some h
        obtain ⟨hc3, h⟩ := chk_some h
        refine awp_region (rs := []) (cs := []) (live := [0, 1, 5, 25]) (names := []) (st' := (⟨[(0, (AV.list 2 eA2I64 ((0 : Int), (0 : Int)) a_a .none)), (1, (AV.list 2 eA2I64 ((0 : Int), (0 : Int)) a_b .none)), (5, (.int .i64 i1)), (25, (.bool (!((((a_a.getD (i1).toNat ((0 : Int), (0 : Int))).1 : Int) == (a_b.getD (i1).toNat ((0 : Int), (0 : Int))).1) && ((((a_a.getD (i1).toNat ((0 : Int), (0 : Int))).2 : Int) == (a_b.getD (i1).toNat ((0 : Int), (0 : Int))).2) && true)))))], []⟩ : St)) (obs := [(InB i1 a_a.length), (InB i1 a_b.length)]) hn mix (no_hand hΓ) (by kernel_rfl) ⟨hc2, hc3, trivial⟩ ?_
        refine then_normal ?_
        refine awp_cond (!((((a_a.getD (i1).toNat ((0 : Int), (0 : Int))).1 : Int) == (a_b.getD (i1).toNat ((0 : Int), (0 : Int))).1) && ((((a_a.getD (i1).toNat ((0 : Int), (0 : Int))).2 : Int) == (a_b.getD (i1).toNat ((0 : Int), (0 : Int))).2) && true))) (by kernel_rfl) (fun hb => ?_) (fun hb => ?_)
        · replace h := cond_t hb h
          clear hb
          refine awp_seq ?_
          refine awp_region (rs := []) (cs := []) (live := [4]) (names := []) (st' := (⟨[(4, (.bool false))], []⟩ : St)) (obs := []) hn mix (no_hand hΓ) (by kernel_rfl) trivial ?_
          refine then_normal ?_
          refine awp_ret ?_
          refine block_ret ?_
          refine then_ret ?_
          obtain rfl := Option.some.inj h
          exact ⟨(by intro hh; cases hh), rfl, ⟨.inl rfl, [], by kernel_rfl⟩⟩
        · replace h := cond_f hb h
          clear hb
          refine awp_skip ?_
          refine block_normal ?_
          refine then_normal ?_
          refine awp_region (rs := []) (cs := []) (live := [0, 1, 5]) (names := []) (st' := (⟨[(0, (AV.list 2 eA2I64 ((0 : Int), (0 : Int)) a_a .none)), (1, (AV.list 2 eA2I64 ((0 : Int), (0 : Int)) a_b .none)), (5, (.int .i64 (w64 (i1 + (1 : Int)))))], []⟩ : St)) (obs := []) hn mix (no_hand hΓ) (by kernel_rfl) trivial ?_
          obtain rfl := Option.some.inj h
          exact ⟨rfl, Le.refl _ _⟩
      · replace h := cond_f hb h
        clear hb
        refine awp_exit ?_
        refine then_exit ?_
        obtain rfl := Option.some.inj h
        exact ⟨(by intro hh; cases hh), rfl, le_restrict_eq [] [] (by kernel_rfl) (no_hand hΓ)⟩
    · clear hx4
      rcases x4 with _ | r6
      · rintro e st' ⟨rfl, hl5⟩
        refine block_here ?_
        refine then_normal ?_
        refine awp_le hl5 ?_
        refine awp_seq ?_
        refine awp_region (rs := []) (cs := []) (live := [4]) (names := []) (st' := (⟨[(4, (.bool true))], []⟩ : St)) (obs := []) hn mix (no_hand hΓ) (by kernel_rfl) trivial ?_
        refine then_normal ?_
        refine awp_ret ?_
        obtain rfl := Option.some.inj h
        exact ⟨.inl rfl, [], by kernel_rfl⟩
      · rintro e st' ⟨rfl, hk⟩
        refine block_ret ?_
        refine then_ret ?_
        obtain rfl := Option.some.inj h
        exact hk

noncomputable def m_lockstepref03_Pure (a_k : Int) : Option Bool :=
  (some (bif (bif (bif (decide (((0 : Int) : Int) ≤ a_k)) then (decide ((a_k : Int) ≤ (22 : Int))) else false) then ((a_k : Int) != (4 : Int)) else false) then (bif (decide ((a_k : Int) < (16 : Int))) then true else (decide (((20 : Int) : Int) < a_k))) else false))
theorem ok_lockstepref03_Pure (a_k : Int) (r : Bool) (h : m_lockstepref03_Pure a_k = some r) : Spec Try.prog 20 [(.int .i64 a_k)] [] (.bool r) [] := by
  refine spec_of_awp (fn := Try.f20) Try.func20 rfl rfl (by kernel_rfl) (fun Γ hn hΓ => ?_)
  have hn : Γ.n = 21 := hn
  unfold m_lockstepref03_Pure at h
  refine awp_seq ?_
  refine awp_region (rs := []) (cs := []) (live := [0]) (names := []) (st' := (⟨[(0, (.int .i64 a_k))], []⟩ : St)) (obs := []) hn mix (no_hand hΓ) (by kernel_rfl) trivial ?_
  refine then_normal ?_
  refine awp_seq ?_
  refine awp_region (rs := []) (cs := []) (live := [2]) (names := []) (st' := (⟨[(2, (.bool (bif (bif (bif (decide (((0 : Int) : Int) ≤ a_k)) then (decide ((a_k : Int) ≤ (22 : Int))) else false) then ((a_k : Int) != (4 : Int)) else false) then (bif (decide ((a_k : Int) < (16 : Int))) then true else (decide (((20 : Int) : Int) < a_k))) else false)))], []⟩ : St)) (obs := [(((decide (((0 : Int) : Int) ≤ a_k)) == true) = true → ((decide (((0 : Int) : Int) ≤ a_k)) == true) = true), ((decide (((0 : Int) : Int) ≤ a_k)) = true → ((decide (((0 : Int) : Int) ≤ a_k)) == true) = true), (((bif (decide (((0 : Int) : Int) ≤ a_k)) then (decide ((a_k : Int) ≤ (22 : Int))) else false) == true) = true → ((bif (decide (((0 : Int) : Int) ≤ a_k)) then (decide ((a_k : Int) ≤ (22 : Int))) else false) == true) = true), ((bif (decide (((0 : Int) : Int) ≤ a_k)) then (decide ((a_k : Int) ≤ (22 : Int))) else false) = true → ((bif (decide (((0 : Int) : Int) ≤ a_k)) then (decide ((a_k : Int) ≤ (22 : Int))) else false) == true) = true), (((bif (bif (decide (((0 : Int) : Int) ≤ a_k)) then (decide ((a_k : Int) ≤ (22 : Int))) else false) then ((a_k : Int) != (4 : Int)) else false) == true) = true → ((bif (bif (decide (((0 : Int) : Int) ≤ a_k)) then (decide ((a_k : Int) ≤ (22 : Int))) else false) then ((a_k : Int) != (4 : Int)) else false) == true) = true), (((bif (bif (decide (((0 : Int) : Int) ≤ a_k)) then (decide ((a_k : Int) ≤ (22 : Int))) else false) then ((a_k : Int) != (4 : Int)) else false) == true) = true → ((bif (bif (decide (((0 : Int) : Int) ≤ a_k)) then (decide ((a_k : Int) ≤ (22 : Int))) else false) then ((a_k : Int) != (4 : Int)) else false) == true) = true), ((((bif (bif (decide (((0 : Int) : Int) ≤ a_k)) then (decide ((a_k : Int) ≤ (22 : Int))) else false) then ((a_k : Int) != (4 : Int)) else false) == true) && ((decide ((a_k : Int) < (16 : Int))) == false)) = true → (((bif (bif (decide (((0 : Int) : Int) ≤ a_k)) then (decide ((a_k : Int) ≤ (22 : Int))) else false) then ((a_k : Int) != (4 : Int)) else false) == true) && ((decide ((a_k : Int) < (16 : Int))) == false)) = true), (((bif (bif (decide (((0 : Int) : Int) ≤ a_k)) then (decide ((a_k : Int) ≤ (22 : Int))) else false) then ((a_k : Int) != (4 : Int)) else false) == true) = true → ((bif (bif (decide (((0 : Int) : Int) ≤ a_k)) then (decide ((a_k : Int) ≤ (22 : Int))) else false) then ((a_k : Int) != (4 : Int)) else false) == true) = true), (((bif (bif (decide (((0 : Int) : Int) ≤ a_k)) then (decide ((a_k : Int) ≤ (22 : Int))) else false) then ((a_k : Int) != (4 : Int)) else false) == true) = true → ((decide ((a_k : Int) < (16 : Int))) = false → (((bif (bif (decide (((0 : Int) : Int) ≤ a_k)) then (decide ((a_k : Int) ≤ (22 : Int))) else false) then ((a_k : Int) != (4 : Int)) else false) == true) && ((decide ((a_k : Int) < (16 : Int))) == false)) = true)), ((bif (bif (decide (((0 : Int) : Int) ≤ a_k)) then (decide ((a_k : Int) ≤ (22 : Int))) else false) then ((a_k : Int) != (4 : Int)) else false) = true → ((bif (bif (decide (((0 : Int) : Int) ≤ a_k)) then (decide ((a_k : Int) ≤ (22 : Int))) else false) then ((a_k : Int) != (4 : Int)) else false) == true) = true)]) hn mix (no_hand hΓ) (by kernel_rfl) ⟨(fun hg => hg), (fun hp => by rw [hp]; rfl), (fun hg => hg), (fun hp => by rw [hp]; rfl), (fun hg => hg), (fun hg => hg), (fun hg => hg), (fun hg => hg), (fun hg => (fun hp => by rw [hg, hp]; rfl)), (fun hp => by rw [hp]; rfl), trivial⟩ ?_
  refine then_normal ?_
  refine awp_ret ?_
  obtain rfl := Option.some.inj h
  exact ⟨.inl rfl, [], by kernel_rfl⟩

noncomputable def m_locksteplaw03_KindLooks (a_o : TOp) : Option Bool :=
  ((m_locksteplaw03_awake).bind fun x1 => (bif (!x1) then (some false) else (bif (decide (((100 : Int) : Int) < (a_o.Args.length : Int))) then (some true) else ((m_kind_Gives a_o).bind fun x2 => ((m_lockstepref03_Gives a_o).bind fun x3 => ((m_kind_May a_o).bind fun x4 => ((m_lockstepref03_May a_o).bind fun x5 => ((bif ((x4 == x5) == true) then m_kind_Takes a_o else some ([])).bind fun x6 => ((bif ((x4 == x5) == true) then m_lockstepref03_Takes a_o else some ([])).bind fun x7 => ((bif ((x4 == x5) == true) then m_locksteplaw03_shapes x6 x7 else some (false)).bind fun x8 => ((bif ((bif (bif (bif (x4 == x5) then x8 else false) then ((x2.1 : Int) == x3.1) else false) then ((x2.2 : Int) == x3.2) else false) == true) then m_kind_Shape a_o.Bits a_o.Lanes else some (false)).bind fun x9 => ((bif ((bif (bif (bif (x4 == x5) then x8 else false) then ((x2.1 : Int) == x3.1) else false) then ((x2.2 : Int) == x3.2) else false) == true) then m_lockstepref03_Shape a_o.Bits a_o.Lanes else some (false)).bind fun x10 => ((bif ((bif (bif (bif (bif (x4 == x5) then x8 else false) then ((x2.1 : Int) == x3.1) else false) then ((x2.2 : Int) == x3.2) else false) then (x9 == x10) else false) == true) then m_kind_Pure a_o.Kind else some (false)).bind fun x11 => ((bif ((bif (bif (bif (bif (x4 == x5) then x8 else false) then ((x2.1 : Int) == x3.1) else false) then ((x2.2 : Int) == x3.2) else false) then (x9 == x10) else false) == true) then m_lockstepref03_Pure a_o.Kind else some (false)).bind fun x12 => (some (bif (bif (bif (bif (bif (x4 == x5) then x8 else false) then ((x2.1 : Int) == x3.1) else false) then ((x2.2 : Int) == x3.2) else false) then (x9 == x10) else false) then (x11 == x12) else false))))))))))))))))
theorem ok_locksteplaw03_KindLooks (a_o : TOp) (r : Bool) (h : m_locksteplaw03_KindLooks a_o = some r) : Spec Try.prog 3 [(.agg (eTOp a_o))] [] (.bool r) [] := by
  refine spec_of_awp (fn := Try.f3) Try.func3 rfl rfl (by kernel_rfl) (fun Γ hn hΓ => ?_)
  have hn : Γ.n = 67 := hn
  unfold m_locksteplaw03_KindLooks at h
  refine awp_seq ?_
  refine awp_region (rs := []) (cs := []) (live := [1]) (names := [1]) (st' := (⟨[(1, (.ptr 1 0))], [(1, .row [(.int .i64 a_o.Kind), (.int .i64 a_o.Bits), (.int .i64 a_o.Lanes), (.int .i64 a_o.Dst), (AV.list 1 eI64 (0 : Int) a_o.Args .none), (.int .u64 a_o.Imm)])]⟩ : St)) (obs := []) hn mix (no_hand hΓ) (by kernel_rfl) trivial ?_
  refine then_normal ?_
  refine awp_seq ?_
  refine awp_seq ?_
  obtain ⟨x1, hx1, h⟩ := bind_some h
  refine awp_region (rs := [⟨[], [], (.bool x1), []⟩]) (cs := []) (live := [1, 8]) (names := [1]) (st' := (⟨[(1, (.ptr 1 0)), (8, (.bool (!x1)))], [(1, .row [(.int .i64 a_o.Kind), (.int .i64 a_o.Bits), (.int .i64 a_o.Lanes), (.int .i64 a_o.Dst), (AV.list 1 eI64 (0 : Int) a_o.Args .none), (.int .u64 a_o.Imm)])]⟩ : St)) (obs := [(Spec Try.prog 9 [] [] (.bool x1) [])]) hn mix (no_hand hΓ) (by kernel_rfl) ⟨(ok_locksteplaw03_awake  x1 hx1), trivial⟩ ?_
  refine then_normal ?_
  refine awp_cond (!x1) (by kernel_rfl) (fun hb => ?_) (fun hb => ?_)
  · replace h := cond_t hb h
    clear hb
    refine awp_seq ?_
    refine awp_region (rs := []) (cs := []) (live := [2]) (names := []) (st' := (⟨[(2, (.bool false))], []⟩ : St)) (obs := []) hn mix (no_hand hΓ) (by kernel_rfl) trivial ?_
    refine then_normal ?_
    refine awp_ret ?_
    refine then_ret ?_
    obtain rfl := Option.some.inj h
    exact ⟨.inl rfl, [], by kernel_rfl⟩
  · replace h := cond_f hb h
    clear hb
    refine awp_skip ?_
    refine then_normal ?_
    refine awp_seq ?_
    refine awp_seq ?_
    refine awp_region (rs := []) (cs := []) (live := [1, 12]) (names := [1]) (st' := (⟨[(1, (.ptr 1 0)), (12, (.bool (decide (((100 : Int) : Int) < (a_o.Args.length : Int)))))], [(1, .row [(.int .i64 a_o.Kind), (.int .i64 a_o.Bits), (.int .i64 a_o.Lanes), (.int .i64 a_o.Dst), (AV.list 1 eI64 (0 : Int) a_o.Args .none), (.int .u64 a_o.Imm)])]⟩ : St)) (obs := [(4 < List.length (α := AV) [(.int .i64 a_o.Kind), (.int .i64 a_o.Bits), (.int .i64 a_o.Lanes), (.int .i64 a_o.Dst), (AV.list 1 eI64 (0 : Int) a_o.Args .none), (.int .u64 a_o.Imm)])]) hn mix (no_hand hΓ) (by kernel_rfl) ⟨(Nat.le_of_ble_eq_true rfl), trivial⟩ ?_
    refine then_normal ?_
    refine awp_cond (decide (((100 : Int) : Int) < (a_o.Args.length : Int))) (by kernel_rfl) (fun hb => ?_) (fun hb => ?_)
    · replace h := cond_t hb h
      clear hb
      refine awp_seq ?_
      refine awp_region (rs := []) (cs := []) (live := [2]) (names := []) (st' := (⟨[(2, (.bool true))], []⟩ : St)) (obs := []) hn mix (no_hand hΓ) (by kernel_rfl) trivial ?_
      refine then_normal ?_
      refine awp_ret ?_
      refine then_ret ?_
      obtain rfl := Option.some.inj h
      exact ⟨.inl rfl, [], by kernel_rfl⟩
    · replace h := cond_f hb h
      clear hb
      refine awp_skip ?_
      refine then_normal ?_
      refine awp_seq ?_
      obtain ⟨x2, hx2, h⟩ := bind_some h
      refine awp_region (rs := [⟨[], [], (.tuple [(.int .i64 x2.1), (.int .i64 x2.2)]), []⟩]) (cs := []) (live := [1, 3, 4]) (names := [1]) (st' := (⟨[(1, (.ptr 1 0)), (3, (.int .i64 x2.1)), (4, (.int .i64 x2.2))], [(1, .row [(.int .i64 a_o.Kind), (.int .i64 a_o.Bits), (.int .i64 a_o.Lanes), (.int .i64 a_o.Dst), (AV.list 1 eI64 (0 : Int) a_o.Args .none), (.int .u64 a_o.Imm)])]⟩ : St)) (obs := [(0 + 6 ≤ List.length (α := AV) [(.int .i64 a_o.Kind), (.int .i64 a_o.Bits), (.int .i64 a_o.Lanes), (.int .i64 a_o.Dst), (AV.list 1 eI64 (0 : Int) a_o.Args .none), (.int .u64 a_o.Imm)]), (Spec Try.prog 10 [(.agg (eTOp a_o))] [] (.tuple [(.int .i64 x2.1), (.int .i64 x2.2)]) [])]) hn mix (no_hand hΓ) (by kernel_rfl) ⟨(Nat.le_of_ble_eq_true rfl), (ok_kind_Gives a_o x2 hx2), trivial⟩ ?_
      refine then_normal ?_
      refine awp_seq ?_
      obtain ⟨x3, hx3, h⟩ := bind_some h
      refine awp_region (rs := [⟨[], [], (.tuple [(.int .i64 x3.1), (.int .i64 x3.2)]), []⟩]) (cs := []) (live := [1, 3, 4, 5, 6]) (names := [1]) (st' := (⟨[(1, (.ptr 1 0)), (3, (.int .i64 x2.1)), (4, (.int .i64 x2.2)), (5, (.int .i64 x3.1)), (6, (.int .i64 x3.2))], [(1, .row [(.int .i64 a_o.Kind), (.int .i64 a_o.Bits), (.int .i64 a_o.Lanes), (.int .i64 a_o.Dst), (AV.list 1 eI64 (0 : Int) a_o.Args .none), (.int .u64 a_o.Imm)])]⟩ : St)) (obs := [(0 + 6 ≤ List.length (α := AV) [(.int .i64 a_o.Kind), (.int .i64 a_o.Bits), (.int .i64 a_o.Lanes), (.int .i64 a_o.Dst), (AV.list 1 eI64 (0 : Int) a_o.Args .none), (.int .u64 a_o.Imm)]), (Spec Try.prog 11 [(.agg (eTOp a_o))] [] (.tuple [(.int .i64 x3.1), (.int .i64 x3.2)]) [])]) hn mix (no_hand hΓ) (by kernel_rfl) ⟨(Nat.le_of_ble_eq_true rfl), (ok_lockstepref03_Gives a_o x3 hx3), trivial⟩ ?_
      refine then_normal ?_
      refine awp_seq ?_
      obtain ⟨x4, hx4, h⟩ := bind_some h
      obtain ⟨x5, hx5, h⟩ := bind_some h
      obtain ⟨x6, hx6, h⟩ := bind_some h
      obtain ⟨x7, hx7, h⟩ := bind_some h
      obtain ⟨x8, hx8, h⟩ := bind_some h
      obtain ⟨x9, hx9, h⟩ := bind_some h
      obtain ⟨x10, hx10, h⟩ := bind_some h
      obtain ⟨x11, hx11, h⟩ := bind_some h
      obtain ⟨x12, hx12, h⟩ := bind_some h
      refine awp_region (rs := [⟨[], [], (.bool x4), []⟩, ⟨[], [], (.bool x5), []⟩, ⟨[], [], (AV.list 2 eA2I64 ((0 : Int), (0 : Int)) x6 .none), []⟩, ⟨[], [], (AV.list 2 eA2I64 ((0 : Int), (0 : Int)) x7 .none), []⟩, ⟨[], [], (.bool x8), []⟩, ⟨[], [], (.bool x9), []⟩, ⟨[], [], (.bool x10), []⟩, ⟨[], [], (.bool x11), []⟩, ⟨[], [], (.bool x12), []⟩]) (cs := []) (live := [2]) (names := []) (st' := (⟨[(2, (.bool (bif (bif (bif (bif (bif (x4 == x5) then x8 else false) then ((x2.1 : Int) == x3.1) else false) then ((x2.2 : Int) == x3.2) else false) then (x9 == x10) else false) then (x11 == x12) else false)))], []⟩ : St)) (obs := [(0 + 6 ≤ List.length (α := AV) [(.int .i64 a_o.Kind), (.int .i64 a_o.Bits), (.int .i64 a_o.Lanes), (.int .i64 a_o.Dst), (AV.list 1 eI64 (0 : Int) a_o.Args .none), (.int .u64 a_o.Imm)]), (Spec Try.prog 12 [(.agg (eTOp a_o))] [] (.bool x4) []), (0 + 6 ≤ List.length (α := AV) [(.int .i64 a_o.Kind), (.int .i64 a_o.Bits), (.int .i64 a_o.Lanes), (.int .i64 a_o.Dst), (AV.list 1 eI64 (0 : Int) a_o.Args .none), (.int .u64 a_o.Imm)]), (Spec Try.prog 13 [(.agg (eTOp a_o))] [] (.bool x5) []), (((x4 == x5) == true) = true → (0 + 6 ≤ List.length (α := AV) [(.int .i64 a_o.Kind), (.int .i64 a_o.Bits), (.int .i64 a_o.Lanes), (.int .i64 a_o.Dst), (AV.list 1 eI64 (0 : Int) a_o.Args .none), (.int .u64 a_o.Imm)])), (((x4 == x5) == true) = true → ((x4 == x5) == true) = true), (((x4 == x5) == true) = true → (Spec Try.prog 15 [(.agg (eTOp a_o))] [] (AV.list 2 eA2I64 ((0 : Int), (0 : Int)) x6 .none) [])), (((x4 == x5) == true) = true → (0 + 6 ≤ List.length (α := AV) [(.int .i64 a_o.Kind), (.int .i64 a_o.Bits), (.int .i64 a_o.Lanes), (.int .i64 a_o.Dst), (AV.list 1 eI64 (0 : Int) a_o.Args .none), (.int .u64 a_o.Imm)])), (((x4 == x5) == true) = true → ((x4 == x5) == true) = true), (((x4 == x5) == true) = true → (Spec Try.prog 16 [(.agg (eTOp a_o))] [] (AV.list 2 eA2I64 ((0 : Int), (0 : Int)) x7 .none) [])), (((x4 == x5) == true) = true → ((x4 == x5) == true) = true), (((x4 == x5) == true) = true → ((x4 == x5) == true) = true), (((x4 == x5) == true) = true → (Spec Try.prog 14 [(AV.list 2 eA2I64 ((0 : Int), (0 : Int)) x6 .none), (AV.list 2 eA2I64 ((0 : Int), (0 : Int)) x7 .none)] [] (.bool x8) [])), ((x4 == x5) = true → ((x4 == x5) == true) = true), (((bif (x4 == x5) then x8 else false) == true) = true → ((bif (x4 == x5) then x8 else false) == true) = true), (((bif (x4 == x5) then x8 else false) == true) = true → ((bif (x4 == x5) then x8 else false) == true) = true), ((bif (x4 == x5) then x8 else false) = true → ((bif (x4 == x5) then x8 else false) == true) = true), (((bif (bif (x4 == x5) then x8 else false) then ((x2.1 : Int) == x3.1) else false) == true) = true → ((bif (bif (x4 == x5) then x8 else false) then ((x2.1 : Int) == x3.1) else false) == true) = true), (((bif (bif (x4 == x5) then x8 else false) then ((x2.1 : Int) == x3.1) else false) == true) = true → ((bif (bif (x4 == x5) then x8 else false) then ((x2.1 : Int) == x3.1) else false) == true) = true), ((bif (bif (x4 == x5) then x8 else false) then ((x2.1 : Int) == x3.1) else false) = true → ((bif (bif (x4 == x5) then x8 else false) then ((x2.1 : Int) == x3.1) else false) == true) = true), (((bif (bif (bif (x4 == x5) then x8 else false) then ((x2.1 : Int) == x3.1) else false) then ((x2.2 : Int) == x3.2) else false) == true) = true → ((bif (bif (bif (x4 == x5) then x8 else false) then ((x2.1 : Int) == x3.1) else false) then ((x2.2 : Int) == x3.2) else false) == true) = true), (((bif (bif (bif (x4 == x5) then x8 else false) then ((x2.1 : Int) == x3.1) else false) then ((x2.2 : Int) == x3.2) else false) == true) = true → (1 < List.length (α := AV) [(.int .i64 a_o.Kind), (.int .i64 a_o.Bits), (.int .i64 a_o.Lanes), (.int .i64 a_o.Dst), (AV.list 1 eI64 (0 : Int) a_o.Args .none), (.int .u64 a_o.Imm)])), (((bif (bif (bif (x4 == x5) then x8 else false) then ((x2.1 : Int) == x3.1) else false) then ((x2.2 : Int) == x3.2) else false) == true) = true → ((bif (bif (bif (x4 == x5) then x8 else false) then ((x2.1 : Int) == x3.1) else false) then ((x2.2 : Int) == x3.2) else false) == true) = true), (((bif (bif (bif (x4 == x5) then x8 else false) then ((x2.1 : Int) == x3.1) else false) then ((x2.2 : Int) == x3.2) else false) == true) = true → (2 < List.length (α := AV) [(.int .i64 a_o.Kind), (.int .i64 a_o.Bits), (.int .i64 a_o.Lanes), (.int .i64 a_o.Dst), (AV.list 1 eI64 (0 : Int) a_o.Args .none), (.int .u64 a_o.Imm)])), (((bif (bif (bif (x4 == x5) then x8 else false) then ((x2.1 : Int) == x3.1) else false) then ((x2.2 : Int) == x3.2) else false) == true) = true → ((bif (bif (bif (x4 == x5) then x8 else false) then ((x2.1 : Int) == x3.1) else false) then ((x2.2 : Int) == x3.2) else false) == true) = true), (((bif (bif (bif (x4 == x5) then x8 else false) then ((x2.1 : Int) == x3.1) else false) then ((x2.2 : Int) == x3.2) else false) == true) = true → ((bif (bif (bif (x4 == x5) then x8 else false) then ((x2.1 : Int) == x3.1) else false) then ((x2.2 : Int) == x3.2) else false) == true) = true), (((bif (bif (bif (x4 == x5) then x8 else false) then ((x2.1 : Int) == x3.1) else false) then ((x2.2 : Int) == x3.2) else false) == true) = true → (Spec Try.prog 17 [(.int .i64 a_o.Bits), (.int .i64 a_o.Lanes)] [] (.bool x9) [])), (((bif (bif (bif (x4 == x5) then x8 else false) then ((x2.1 : Int) == x3.1) else false) then ((x2.2 : Int) == x3.2) else false) == true) = true → ((bif (bif (bif (x4 == x5) then x8 else false) then ((x2.1 : Int) == x3.1) else false) then ((x2.2 : Int) == x3.2) else false) == true) = true), (((bif (bif (bif (x4 == x5) then x8 else false) then ((x2.1 : Int) == x3.1) else false) then ((x2.2 : Int) == x3.2) else false) == true) = true → (1 < List.length (α := AV) [(.int .i64 a_o.Kind), (.int .i64 a_o.Bits), (.int .i64 a_o.Lanes), (.int .i64 a_o.Dst), (AV.list 1 eI64 (0 : Int) a_o.Args .none), (.int .u64 a_o.Imm)])), (((bif (bif (bif (x4 == x5) then x8 else false) then ((x2.1 : Int) == x3.1) else false) then ((x2.2 : Int) == x3.2) else false) == true) = true → ((bif (bif (bif (x4 == x5) then x8 else false) then ((x2.1 : Int) == x3.1) else false) then ((x2.2 : Int) == x3.2) else false) == true) = true), (((bif (bif (bif (x4 == x5) then x8 else false) then ((x2.1 : Int) == x3.1) else false) then ((x2.2 : Int) == x3.2) else false) == true) = true → (2 < List.length (α := AV) [(.int .i64 a_o.Kind), (.int .i64 a_o.Bits), (.int .i64 a_o.Lanes), (.int .i64 a_o.Dst), (AV.list 1 eI64 (0 : Int) a_o.Args .none), (.int .u64 a_o.Imm)])), (((bif (bif (bif (x4 == x5) then x8 else false) then ((x2.1 : Int) == x3.1) else false) then ((x2.2 : Int) == x3.2) else false) == true) = true → ((bif (bif (bif (x4 == x5) then x8 else false) then ((x2.1 : Int) == x3.1) else false) then ((x2.2 : Int) == x3.2) else false) == true) = true), (((bif (bif (bif (x4 == x5) then x8 else false) then ((x2.1 : Int) == x3.1) else false) then ((x2.2 : Int) == x3.2) else false) == true) = true → ((bif (bif (bif (x4 == x5) then x8 else false) then ((x2.1 : Int) == x3.1) else false) then ((x2.2 : Int) == x3.2) else false) == true) = true), (((bif (bif (bif (x4 == x5) then x8 else false) then ((x2.1 : Int) == x3.1) else false) then ((x2.2 : Int) == x3.2) else false) == true) = true → (Spec Try.prog 18 [(.int .i64 a_o.Bits), (.int .i64 a_o.Lanes)] [] (.bool x10) [])), (((bif (bif (bif (x4 == x5) then x8 else false) then ((x2.1 : Int) == x3.1) else false) then ((x2.2 : Int) == x3.2) else false) == true) = true → ((bif (bif (bif (x4 == x5) then x8 else false) then ((x2.1 : Int) == x3.1) else false) then ((x2.2 : Int) == x3.2) else false) == true) = true), (((bif (bif (bif (x4 == x5) then x8 else false) then ((x2.1 : Int) == x3.1) else false) then ((x2.2 : Int) == x3.2) else false) == true) = true → ((bif (bif (bif (x4 == x5) then x8 else false) then ((x2.1 : Int) == x3.1) else false) then ((x2.2 : Int) == x3.2) else false) == true) = true), ((bif (bif (bif (x4 == x5) then x8 else false) then ((x2.1 : Int) == x3.1) else false) then ((x2.2 : Int) == x3.2) else false) = true → ((bif (bif (bif (x4 == x5) then x8 else false) then ((x2.1 : Int) == x3.1) else false) then ((x2.2 : Int) == x3.2) else false) == true) = true), (((bif (bif (bif (bif (x4 == x5) then x8 else false) then ((x2.1 : Int) == x3.1) else false) then ((x2.2 : Int) == x3.2) else false) then (x9 == x10) else false) == true) = true → ((bif (bif (bif (bif (x4 == x5) then x8 else false) then ((x2.1 : Int) == x3.1) else false) then ((x2.2 : Int) == x3.2) else false) then (x9 == x10) else false) == true) = true), (((bif (bif (bif (bif (x4 == x5) then x8 else false) then ((x2.1 : Int) == x3.1) else false) then ((x2.2 : Int) == x3.2) else false) then (x9 == x10) else false) == true) = true → (0 < List.length (α := AV) [(.int .i64 a_o.Kind), (.int .i64 a_o.Bits), (.int .i64 a_o.Lanes), (.int .i64 a_o.Dst), (AV.list 1 eI64 (0 : Int) a_o.Args .none), (.int .u64 a_o.Imm)])), (((bif (bif (bif (bif (x4 == x5) then x8 else false) then ((x2.1 : Int) == x3.1) else false) then ((x2.2 : Int) == x3.2) else false) then (x9 == x10) else false) == true) = true → ((bif (bif (bif (bif (x4 == x5) then x8 else false) then ((x2.1 : Int) == x3.1) else false) then ((x2.2 : Int) == x3.2) else false) then (x9 == x10) else false) == true) = true), (((bif (bif (bif (bif (x4 == x5) then x8 else false) then ((x2.1 : Int) == x3.1) else false) then ((x2.2 : Int) == x3.2) else false) then (x9 == x10) else false) == true) = true → (Spec Try.prog 19 [(.int .i64 a_o.Kind)] [] (.bool x11) [])), (((bif (bif (bif (bif (x4 == x5) then x8 else false) then ((x2.1 : Int) == x3.1) else false) then ((x2.2 : Int) == x3.2) else false) then (x9 == x10) else false) == true) = true → ((bif (bif (bif (bif (x4 == x5) then x8 else false) then ((x2.1 : Int) == x3.1) else false) then ((x2.2 : Int) == x3.2) else false) then (x9 == x10) else false) == true) = true), (((bif (bif (bif (bif (x4 == x5) then x8 else false) then ((x2.1 : Int) == x3.1) else false) then ((x2.2 : Int) == x3.2) else false) then (x9 == x10) else false) == true) = true → (0 < List.length (α := AV) [(.int .i64 a_o.Kind), (.int .i64 a_o.Bits), (.int .i64 a_o.Lanes), (.int .i64 a_o.Dst), (AV.list 1 eI64 (0 : Int) a_o.Args .none), (.int .u64 a_o.Imm)])), (((bif (bif (bif (bif (x4 == x5) then x8 else false) then ((x2.1 : Int) == x3.1) else false) then ((x2.2 : Int) == x3.2) else false) then (x9 == x10) else false) == true) = true → ((bif (bif (bif (bif (x4 == x5) then x8 else false) then ((x2.1 : Int) == x3.1) else false) then ((x2.2 : Int) == x3.2) else false) then (x9 == x10) else false) == true) = true), (((bif (bif (bif (bif (x4 == x5) then x8 else false) then ((x2.1 : Int) == x3.1) else false) then ((x2.2 : Int) == x3.2) else false) then (x9 == x10) else false) == true) = true → (Spec Try.prog 20 [(.int .i64 a_o.Kind)] [] (.bool x12) [])), (((bif (bif (bif (bif (x4 == x5) then x8 else false) then ((x2.1 : Int) == x3.1) else false) then ((x2.2 : Int) == x3.2) else false) then (x9 == x10) else false) == true) = true → ((bif (bif (bif (bif (x4 == x5) then x8 else false) then ((x2.1 : Int) == x3.1) else false) then ((x2.2 : Int) == x3.2) else false) then (x9 == x10) else false) == true) = true), (((bif (bif (bif (bif (x4 == x5) then x8 else false) then ((x2.1 : Int) == x3.1) else false) then ((x2.2 : Int) == x3.2) else false) then (x9 == x10) else false) == true) = true → ((bif (bif (bif (bif (x4 == x5) then x8 else false) then ((x2.1 : Int) == x3.1) else false) then ((x2.2 : Int) == x3.2) else false) then (x9 == x10) else false) == true) = true), ((bif (bif (bif (bif (x4 == x5) then x8 else false) then ((x2.1 : Int) == x3.1) else false) then ((x2.2 : Int) == x3.2) else false) then (x9 == x10) else false) = true → ((bif (bif (bif (bif (x4 == x5) then x8 else false) then ((x2.1 : Int) == x3.1) else false) then ((x2.2 : Int) == x3.2) else false) then (x9 == x10) else false) == true) = true)]) hn mix (no_hand hΓ) (by kernel_rfl) ⟨(Nat.le_of_ble_eq_true rfl), (ok_kind_May a_o x4 hx4), (Nat.le_of_ble_eq_true rfl), (ok_lockstepref03_May a_o x5 hx5), (fun hg => (Nat.le_of_ble_eq_true rfl)), (fun hg => hg), (fun hg => (ok_kind_Takes a_o x6 (cond_t hg hx6))), (fun hg => (Nat.le_of_ble_eq_true rfl)), (fun hg => hg), (fun hg => (Spec.drop (ok_lockstepref03_Takes a_o x7 (cond_t hg hx7)))), (fun hg => hg), (fun hg => hg), (fun hg => (ok_locksteplaw03_shapes x6 x7 x8 (cond_t hg hx8))), (fun hp => by rw [hp]; rfl), (fun hg => hg), (fun hg => hg), (fun hp => by rw [hp]; rfl), (fun hg => hg), (fun hg => hg), (fun hp => by rw [hp]; rfl), (fun hg => hg), (fun hg => (Nat.le_of_ble_eq_true rfl)), (fun hg => hg), (fun hg => (Nat.le_of_ble_eq_true rfl)), (fun hg => hg), (fun hg => hg), (fun hg => (ok_kind_Shape a_o.Bits a_o.Lanes x9 (cond_t hg hx9))), (fun hg => hg), (fun hg => (Nat.le_of_ble_eq_true rfl)), (fun hg => hg), (fun hg => (Nat.le_of_ble_eq_true rfl)), (fun hg => hg), (fun hg => hg), (fun hg => (ok_lockstepref03_Shape a_o.Bits a_o.Lanes x10 (cond_t hg hx10))), (fun hg => hg), (fun hg => hg), (fun hp => by rw [hp]; rfl), (fun hg => hg), (fun hg => (Nat.le_of_ble_eq_true rfl)), (fun hg => hg), (fun hg => (ok_kind_Pure a_o.Kind x11 (cond_t hg hx11))), (fun hg => hg), (fun hg => (Nat.le_of_ble_eq_true rfl)), (fun hg => hg), (fun hg => (ok_lockstepref03_Pure a_o.Kind x12 (cond_t hg hx12))), (fun hg => hg), (fun hg => hg), (fun hp => by rw [hp]; rfl), trivial⟩ ?_
      refine then_normal ?_
      refine awp_ret ?_
      obtain rfl := Option.some.inj h
      exact ⟨.inl rfl, [], by kernel_rfl⟩

noncomputable def m_slices_Equal_int_int_L1 (a_s1 : List (Int)) (a_s2 : List (Int)) : Int → Option (LR Int (Unit ⊕ Bool)) :=
  fun (i1 : Int) => (bif (decide ((i1 : Int) < (a_s1.length : Int))) then (chk (InB i1 a_s1.length) (chk (InB i1 a_s2.length) (bif (((a_s1.getD (i1).toNat (0 : Int)) : Int) != (a_s2.getD (i1).toNat (0 : Int))) then (some (.done (.inr false))) else (some (.next (w64 (i1 + (1 : Int)))))))) else (some (.done (.inl ()))))
noncomputable def m_slices_Equal_int_int (a_s1 : List (Int)) (a_s2 : List (Int)) : Option Bool :=
  (bif (((a_s1.length : Int) : Int) != (a_s2.length : Int)) then (some false) else ((loopO (S := Int) (X := (Unit ⊕ Bool)) (m_slices_Equal_int_int_L1 a_s1 a_s2) (0 : Int)).bind (fun x4 => (match x4 with | (.inl _) => (some true) | (.inr r6) => (some r6)))))
theorem ok_slices_Equal_int_int (a_s1 : List (Int)) (a_s2 : List (Int)) (r : Bool) (h : m_slices_Equal_int_int a_s1 a_s2 = some r) : Spec Try.prog 35 [(AV.list 1 eI64 (0 : Int) a_s1 .none), (AV.list 1 eI64 (0 : Int) a_s2 .none)] [] (.bool r) [] := by
  refine spec_of_awp (fn := Try.f35) Try.func35 rfl rfl (by kernel_rfl) (fun Γ hn hΓ => ?_)
  have hn : Γ.n = 26 := hn
  unfold m_slices_Equal_int_int at h
  refine awp_seq ?_
  refine awp_region (rs := []) (cs := []) (live := [0, 1]) (names := []) (st' := (⟨[(0, (AV.list 1 eI64 (0 : Int) a_s1 .none)), (1, (AV.list 1 eI64 (0 : Int) a_s2 .none))], []⟩ : St)) (obs := []) hn mix (no_hand hΓ) (by kernel_rfl) trivial ?_
  refine then_normal ?_
  refine awp_seq ?_
  refine awp_seq ?_
  refine awp_region (rs := []) (cs := []) (live := [0, 1, 10]) (names := []) (st' := (⟨[(0, (AV.list 1 eI64 (0 : Int) a_s1 .none)), (1, (AV.list 1 eI64 (0 : Int) a_s2 .none)), (10, (.bool (((a_s1.length : Int) : Int) != (a_s2.length : Int))))], []⟩ : St)) (obs := []) hn mix (no_hand hΓ) (by kernel_rfl) trivial ?_
  refine then_normal ?_
  refine awp_cond (((a_s1.length : Int) : Int) != (a_s2.length : Int)) (by kernel_rfl) (fun hb => ?_) (fun hb => ?_)
  · replace h := cond_t hb h
    clear hb
    refine awp_seq ?_
    refine awp_region (rs := []) (cs := []) (live := [4]) (names := []) (st' := (⟨[(4, (.bool false))], []⟩ : St)) (obs := []) hn mix (no_hand hΓ) (by kernel_rfl) trivial ?_
    refine then_normal ?_
    refine awp_ret ?_
    refine then_ret ?_
    obtain rfl := Option.some.inj h
    exact ⟨.inl rfl, [], by kernel_rfl⟩
  · replace h := cond_f hb h
    clear hb
    refine awp_skip ?_
    refine then_normal ?_
    refine awp_seq ?_
    refine awp_seq ?_
    refine awp_region (rs := []) (cs := []) (live := [0, 1, 12, 13]) (names := []) (st' := (⟨[(0, (AV.list 1 eI64 (0 : Int) a_s1 .none)), (1, (AV.list 1 eI64 (0 : Int) a_s2 .none)), (12, (.int .i64 (a_s1.length : Int))), (13, (.int .i64 (0 : Int)))], []⟩ : St)) (obs := []) hn mix (no_hand hΓ) (by kernel_rfl) trivial ?_
    refine then_normal ?_
    refine awp_block ?_
    refine awp_le (st' := (fun (i1 : Int) => (⟨[(0, (AV.list 1 eI64 (0 : Int) a_s1 .none)), (1, (AV.list 1 eI64 (0 : Int) a_s2 .none)), (12, (.int .i64 (a_s1.length : Int))), (13, (.int .i64 i1))], []⟩ : St)) (0 : Int)) (Le.refl _ _) ?_
    obtain ⟨x4, hx4, h⟩ := bind_some h
    refine awp_loop (fun (i1 : Int) => (⟨[(0, (AV.list 1 eI64 (0 : Int) a_s1 .none)), (1, (AV.list 1 eI64 (0 : Int) a_s2 .none)), (12, (.int .i64 (a_s1.length : Int))), (13, (.int .i64 i1))], []⟩ : St)) _ (fun (x_ : (Unit ⊕ Bool)) (e : Exit) (st : St) => match x_ with | (.inl _) => e = (.exit 0) ∧ Le Γ st (⟨[], []⟩ : St) | (.inr r_) => e = .ret ∧ retK Try.prog Try.f35.results.toList [] (.bool r_) [] e st) ?_ hx4 ?_
    · intro i1 y h
      unfold m_slices_Equal_int_int_L1 at h
      refine awp_seq ?_
      refine awp_region (rs := []) (cs := []) (live := [0, 1, 12, 13, 14]) (names := []) (st' := (⟨[(0, (AV.list 1 eI64 (0 : Int) a_s1 .none)), (1, (AV.list 1 eI64 (0 : Int) a_s2 .none)), (12, (.int .i64 (a_s1.length : Int))), (13, (.int .i64 i1)), (14, (.bool (decide ((i1 : Int) < (a_s1.length : Int)))))], []⟩ : St)) (obs := []) hn mix (no_hand hΓ) (by kernel_rfl) trivial ?_
      refine then_normal ?_
      refine awp_seq ?_
      refine awp_cond (decide ((i1 : Int) < (a_s1.length : Int))) (by kernel_rfl) (fun hb => ?_) (fun hb => ?_)
      · replace h := cond_t hb h
        clear hb
        refine awp_skip ?_
        refine then_normal ?_
        refine awp_seq ?_
        refine awp_block ?_
        refine awp_seq ?_
        refine awp_region (rs := []) (cs := []) (live := [0, 1, 5, 12, 13]) (names := []) (st' := (⟨[(0, (AV.list 1 eI64 (0 : Int) a_s1 .none)), (1, (AV.list 1 eI64 (0 : Int) a_s2 .none)), (5, (.int .i64 i1)), (12, (.int .i64 (a_s1.length : Int))), (13, (.int .i64 i1))], []⟩ : St)) (obs := []) hn mix (no_hand hΓ) (by kernel_rfl) trivial ?_
        refine then_normal ?_
        refine awp_seq ?_
        obtain ⟨hc2, h⟩ := chk_some h
        obtain ⟨hc3, h⟩ := chk_some h
        refine awp_region (rs := []) (cs := []) (live := [0, 1, 12, 13, 24]) (names := []) (st' := (⟨[(0, (AV.list 1 eI64 (0 : Int) a_s1 .none)), (1, (AV.list 1 eI64 (0 : Int) a_s2 .none)), (12, (.int .i64 (a_s1.length : Int))), (13, (.int .i64 i1)), (24, (.bool (((a_s1.getD (i1).toNat (0 : Int)) : Int) != (a_s2.getD (i1).toNat (0 : Int)))))], []⟩ : St)) (obs := [(InB i1 a_s1.length), (InB i1 a_s2.length)]) hn mix (no_hand hΓ) (by kernel_rfl) ⟨hc2, hc3, trivial⟩ ?_
        refine then_normal ?_
        refine awp_cond (((a_s1.getD (i1).toNat (0 : Int)) : Int) != (a_s2.getD (i1).toNat (0 : Int))) (by kernel_rfl) (fun hb => ?_) (fun hb => ?_)
        · replace h := cond_t hb h
          clear hb
          refine awp_seq ?_
          refine awp_region (rs := []) (cs := []) (live := [4]) (names := []) (st' := (⟨[(4, (.bool false))], []⟩ : St)) (obs := []) hn mix (no_hand hΓ) (by kernel_rfl) trivial ?_
          refine then_normal ?_
          refine awp_ret ?_
          refine block_ret ?_
          refine then_ret ?_
          obtain rfl := Option.some.inj h
          exact ⟨(by intro hh; cases hh), rfl, ⟨.inl rfl, [], by kernel_rfl⟩⟩
        · replace h := cond_f hb h
          clear hb
          refine awp_skip ?_
          refine block_normal ?_
          refine then_normal ?_
          refine awp_region (rs := []) (cs := []) (live := [0, 1, 12, 13]) (names := []) (st' := (⟨[(0, (AV.list 1 eI64 (0 : Int) a_s1 .none)), (1, (AV.list 1 eI64 (0 : Int) a_s2 .none)), (12, (.int .i64 (a_s1.length : Int))), (13, (.int .i64 (w64 (i1 + (1 : Int)))))], []⟩ : St)) (obs := []) hn mix (no_hand hΓ) (by kernel_rfl) trivial ?_
          obtain rfl := Option.some.inj h
          exact ⟨rfl, Le.refl _ _⟩
      · replace h := cond_f hb h
        clear hb
        refine awp_exit ?_
        refine then_exit ?_
        obtain rfl := Option.some.inj h
        exact ⟨(by intro hh; cases hh), rfl, le_restrict_eq [] [] (by kernel_rfl) (no_hand hΓ)⟩
    · clear hx4
      rcases x4 with _ | r6
      · rintro e st' ⟨rfl, hl5⟩
        refine block_here ?_
        refine then_normal ?_
        refine awp_le hl5 ?_
        refine awp_seq ?_
        refine awp_region (rs := []) (cs := []) (live := [4]) (names := []) (st' := (⟨[(4, (.bool true))], []⟩ : St)) (obs := []) hn mix (no_hand hΓ) (by kernel_rfl) trivial ?_
        refine then_normal ?_
        refine awp_ret ?_
        obtain rfl := Option.some.inj h
        exact ⟨.inl rfl, [], by kernel_rfl⟩
      · rintro e st' ⟨rfl, hk⟩
        refine block_ret ?_
        refine then_ret ?_
        obtain rfl := Option.some.inj h
        exact hk

noncomputable def m_kind_Same (a_a : TOp) (a_b : TOp) : Option Bool :=
  ((bif ((bif (bif (bif (bif ((a_a.Kind : Int) == a_b.Kind) then ((a_a.Bits : Int) == a_b.Bits) else false) then ((a_a.Lanes : Int) == a_b.Lanes) else false) then ((a_a.Dst : Int) == a_b.Dst) else false) then ((a_a.Imm : Int) == a_b.Imm) else false) == true) then m_slices_Equal_int_int a_a.Args a_b.Args else some (false)).bind fun x1 => (some (bif (bif (bif (bif (bif ((a_a.Kind : Int) == a_b.Kind) then ((a_a.Bits : Int) == a_b.Bits) else false) then ((a_a.Lanes : Int) == a_b.Lanes) else false) then ((a_a.Dst : Int) == a_b.Dst) else false) then ((a_a.Imm : Int) == a_b.Imm) else false) then x1 else false)))
theorem ok_kind_Same (a_a : TOp) (a_b : TOp) (r : Bool) (h : m_kind_Same a_a a_b = some r) : Spec Try.prog 21 [(.agg (eTOp a_a)), (.agg (eTOp a_b))] [] (.bool r) [] := by
  refine spec_of_awp (fn := Try.f21) Try.func21 rfl rfl (by kernel_rfl) (fun Γ hn hΓ => ?_)
  have hn : Γ.n = 45 := hn
  unfold m_kind_Same at h
  refine awp_seq ?_
  refine awp_region (rs := []) (cs := []) (live := [2, 3]) (names := [2, 3]) (st' := (⟨[(2, (.ptr 2 0)), (3, (.ptr 3 0))], [(2, .row [(.int .i64 a_a.Kind), (.int .i64 a_a.Bits), (.int .i64 a_a.Lanes), (.int .i64 a_a.Dst), (AV.list 1 eI64 (0 : Int) a_a.Args .none), (.int .u64 a_a.Imm)]), (3, .row [(.int .i64 a_b.Kind), (.int .i64 a_b.Bits), (.int .i64 a_b.Lanes), (.int .i64 a_b.Dst), (AV.list 1 eI64 (0 : Int) a_b.Args .none), (.int .u64 a_b.Imm)])]⟩ : St)) (obs := []) hn mix (no_hand hΓ) (by kernel_rfl) trivial ?_
  refine then_normal ?_
  refine awp_seq ?_
  obtain ⟨x1, hx1, h⟩ := bind_some h
  refine awp_region (rs := [⟨[], [], (.bool x1), []⟩]) (cs := []) (live := [4]) (names := []) (st' := (⟨[(4, (.bool (bif (bif (bif (bif (bif ((a_a.Kind : Int) == a_b.Kind) then ((a_a.Bits : Int) == a_b.Bits) else false) then ((a_a.Lanes : Int) == a_b.Lanes) else false) then ((a_a.Dst : Int) == a_b.Dst) else false) then ((a_a.Imm : Int) == a_b.Imm) else false) then x1 else false)))], []⟩ : St)) (obs := [(0 < List.length (α := AV) [(.int .i64 a_a.Kind), (.int .i64 a_a.Bits), (.int .i64 a_a.Lanes), (.int .i64 a_a.Dst), (AV.list 1 eI64 (0 : Int) a_a.Args .none), (.int .u64 a_a.Imm)]), (0 < List.length (α := AV) [(.int .i64 a_b.Kind), (.int .i64 a_b.Bits), (.int .i64 a_b.Lanes), (.int .i64 a_b.Dst), (AV.list 1 eI64 (0 : Int) a_b.Args .none), (.int .u64 a_b.Imm)]), ((((a_a.Kind : Int) == a_b.Kind) == true) = true → (((a_a.Kind : Int) == a_b.Kind) == true) = true), ((((a_a.Kind : Int) == a_b.Kind) == true) = true → (1 < List.length (α := AV) [(.int .i64 a_a.Kind), (.int .i64 a_a.Bits), (.int .i64 a_a.Lanes), (.int .i64 a_a.Dst), (AV.list 1 eI64 (0 : Int) a_a.Args .none), (.int .u64 a_a.Imm)])), ((((a_a.Kind : Int) == a_b.Kind) == true) = true → (((a_a.Kind : Int) == a_b.Kind) == true) = true), ((((a_a.Kind : Int) == a_b.Kind) == true) = true → (1 < List.length (α := AV) [(.int .i64 a_b.Kind), (.int .i64 a_b.Bits), (.int .i64 a_b.Lanes), (.int .i64 a_b.Dst), (AV.list 1 eI64 (0 : Int) a_b.Args .none), (.int .u64 a_b.Imm)])), ((((a_a.Kind : Int) == a_b.Kind) == true) = true → (((a_a.Kind : Int) == a_b.Kind) == true) = true), ((((a_a.Kind : Int) == a_b.Kind) == true) = true → (((a_a.Kind : Int) == a_b.Kind) == true) = true), (((a_a.Kind : Int) == a_b.Kind) = true → (((a_a.Kind : Int) == a_b.Kind) == true) = true), (((bif ((a_a.Kind : Int) == a_b.Kind) then ((a_a.Bits : Int) == a_b.Bits) else false) == true) = true → ((bif ((a_a.Kind : Int) == a_b.Kind) then ((a_a.Bits : Int) == a_b.Bits) else false) == true) = true), (((bif ((a_a.Kind : Int) == a_b.Kind) then ((a_a.Bits : Int) == a_b.Bits) else false) == true) = true → (2 < List.length (α := AV) [(.int .i64 a_a.Kind), (.int .i64 a_a.Bits), (.int .i64 a_a.Lanes), (.int .i64 a_a.Dst), (AV.list 1 eI64 (0 : Int) a_a.Args .none), (.int .u64 a_a.Imm)])), (((bif ((a_a.Kind : Int) == a_b.Kind) then ((a_a.Bits : Int) == a_b.Bits) else false) == true) = true → ((bif ((a_a.Kind : Int) == a_b.Kind) then ((a_a.Bits : Int) == a_b.Bits) else false) == true) = true), (((bif ((a_a.Kind : Int) == a_b.Kind) then ((a_a.Bits : Int) == a_b.Bits) else false) == true) = true → (2 < List.length (α := AV) [(.int .i64 a_b.Kind), (.int .i64 a_b.Bits), (.int .i64 a_b.Lanes), (.int .i64 a_b.Dst), (AV.list 1 eI64 (0 : Int) a_b.Args .none), (.int .u64 a_b.Imm)])), (((bif ((a_a.Kind : Int) == a_b.Kind) then ((a_a.Bits : Int) == a_b.Bits) else false) == true) = true → ((bif ((a_a.Kind : Int) == a_b.Kind) then ((a_a.Bits : Int) == a_b.Bits) else false) == true) = true), (((bif ((a_a.Kind : Int) == a_b.Kind) then ((a_a.Bits : Int) == a_b.Bits) else false) == true) = true → ((bif ((a_a.Kind : Int) == a_b.Kind) then ((a_a.Bits : Int) == a_b.Bits) else false) == true) = true), ((bif ((a_a.Kind : Int) == a_b.Kind) then ((a_a.Bits : Int) == a_b.Bits) else false) = true → ((bif ((a_a.Kind : Int) == a_b.Kind) then ((a_a.Bits : Int) == a_b.Bits) else false) == true) = true), (((bif (bif ((a_a.Kind : Int) == a_b.Kind) then ((a_a.Bits : Int) == a_b.Bits) else false) then ((a_a.Lanes : Int) == a_b.Lanes) else false) == true) = true → ((bif (bif ((a_a.Kind : Int) == a_b.Kind) then ((a_a.Bits : Int) == a_b.Bits) else false) then ((a_a.Lanes : Int) == a_b.Lanes) else false) == true) = true), (((bif (bif ((a_a.Kind : Int) == a_b.Kind) then ((a_a.Bits : Int) == a_b.Bits) else false) then ((a_a.Lanes : Int) == a_b.Lanes) else false) == true) = true → (3 < List.length (α := AV) [(.int .i64 a_a.Kind), (.int .i64 a_a.Bits), (.int .i64 a_a.Lanes), (.int .i64 a_a.Dst), (AV.list 1 eI64 (0 : Int) a_a.Args .none), (.int .u64 a_a.Imm)])), (((bif (bif ((a_a.Kind : Int) == a_b.Kind) then ((a_a.Bits : Int) == a_b.Bits) else false) then ((a_a.Lanes : Int) == a_b.Lanes) else false) == true) = true → ((bif (bif ((a_a.Kind : Int) == a_b.Kind) then ((a_a.Bits : Int) == a_b.Bits) else false) then ((a_a.Lanes : Int) == a_b.Lanes) else false) == true) = true), (((bif (bif ((a_a.Kind : Int) == a_b.Kind) then ((a_a.Bits : Int) == a_b.Bits) else false) then ((a_a.Lanes : Int) == a_b.Lanes) else false) == true) = true → (3 < List.length (α := AV) [(.int .i64 a_b.Kind), (.int .i64 a_b.Bits), (.int .i64 a_b.Lanes), (.int .i64 a_b.Dst), (AV.list 1 eI64 (0 : Int) a_b.Args .none), (.int .u64 a_b.Imm)])), (((bif (bif ((a_a.Kind : Int) == a_b.Kind) then ((a_a.Bits : Int) == a_b.Bits) else false) then ((a_a.Lanes : Int) == a_b.Lanes) else false) == true) = true → ((bif (bif ((a_a.Kind : Int) == a_b.Kind) then ((a_a.Bits : Int) == a_b.Bits) else false) then ((a_a.Lanes : Int) == a_b.Lanes) else false) == true) = true), (((bif (bif ((a_a.Kind : Int) == a_b.Kind) then ((a_a.Bits : Int) == a_b.Bits) else false) then ((a_a.Lanes : Int) == a_b.Lanes) else false) == true) = true → ((bif (bif ((a_a.Kind : Int) == a_b.Kind) then ((a_a.Bits : Int) == a_b.Bits) else false) then ((a_a.Lanes : Int) == a_b.Lanes) else false) == true) = true), ((bif (bif ((a_a.Kind : Int) == a_b.Kind) then ((a_a.Bits : Int) == a_b.Bits) else false) then ((a_a.Lanes : Int) == a_b.Lanes) else false) = true → ((bif (bif ((a_a.Kind : Int) == a_b.Kind) then ((a_a.Bits : Int) == a_b.Bits) else false) then ((a_a.Lanes : Int) == a_b.Lanes) else false) == true) = true), (((bif (bif (bif ((a_a.Kind : Int) == a_b.Kind) then ((a_a.Bits : Int) == a_b.Bits) else false) then ((a_a.Lanes : Int) == a_b.Lanes) else false) then ((a_a.Dst : Int) == a_b.Dst) else false) == true) = true → ((bif (bif (bif ((a_a.Kind : Int) == a_b.Kind) then ((a_a.Bits : Int) == a_b.Bits) else false) then ((a_a.Lanes : Int) == a_b.Lanes) else false) then ((a_a.Dst : Int) == a_b.Dst) else false) == true) = true), (((bif (bif (bif ((a_a.Kind : Int) == a_b.Kind) then ((a_a.Bits : Int) == a_b.Bits) else false) then ((a_a.Lanes : Int) == a_b.Lanes) else false) then ((a_a.Dst : Int) == a_b.Dst) else false) == true) = true → (5 < List.length (α := AV) [(.int .i64 a_a.Kind), (.int .i64 a_a.Bits), (.int .i64 a_a.Lanes), (.int .i64 a_a.Dst), (AV.list 1 eI64 (0 : Int) a_a.Args .none), (.int .u64 a_a.Imm)])), (((bif (bif (bif ((a_a.Kind : Int) == a_b.Kind) then ((a_a.Bits : Int) == a_b.Bits) else false) then ((a_a.Lanes : Int) == a_b.Lanes) else false) then ((a_a.Dst : Int) == a_b.Dst) else false) == true) = true → ((bif (bif (bif ((a_a.Kind : Int) == a_b.Kind) then ((a_a.Bits : Int) == a_b.Bits) else false) then ((a_a.Lanes : Int) == a_b.Lanes) else false) then ((a_a.Dst : Int) == a_b.Dst) else false) == true) = true), (((bif (bif (bif ((a_a.Kind : Int) == a_b.Kind) then ((a_a.Bits : Int) == a_b.Bits) else false) then ((a_a.Lanes : Int) == a_b.Lanes) else false) then ((a_a.Dst : Int) == a_b.Dst) else false) == true) = true → (5 < List.length (α := AV) [(.int .i64 a_b.Kind), (.int .i64 a_b.Bits), (.int .i64 a_b.Lanes), (.int .i64 a_b.Dst), (AV.list 1 eI64 (0 : Int) a_b.Args .none), (.int .u64 a_b.Imm)])), (((bif (bif (bif ((a_a.Kind : Int) == a_b.Kind) then ((a_a.Bits : Int) == a_b.Bits) else false) then ((a_a.Lanes : Int) == a_b.Lanes) else false) then ((a_a.Dst : Int) == a_b.Dst) else false) == true) = true → ((bif (bif (bif ((a_a.Kind : Int) == a_b.Kind) then ((a_a.Bits : Int) == a_b.Bits) else false) then ((a_a.Lanes : Int) == a_b.Lanes) else false) then ((a_a.Dst : Int) == a_b.Dst) else false) == true) = true), (((bif (bif (bif ((a_a.Kind : Int) == a_b.Kind) then ((a_a.Bits : Int) == a_b.Bits) else false) then ((a_a.Lanes : Int) == a_b.Lanes) else false) then ((a_a.Dst : Int) == a_b.Dst) else false) == true) = true → ((bif (bif (bif ((a_a.Kind : Int) == a_b.Kind) then ((a_a.Bits : Int) == a_b.Bits) else false) then ((a_a.Lanes : Int) == a_b.Lanes) else false) then ((a_a.Dst : Int) == a_b.Dst) else false) == true) = true), ((bif (bif (bif ((a_a.Kind : Int) == a_b.Kind) then ((a_a.Bits : Int) == a_b.Bits) else false) then ((a_a.Lanes : Int) == a_b.Lanes) else false) then ((a_a.Dst : Int) == a_b.Dst) else false) = true → ((bif (bif (bif ((a_a.Kind : Int) == a_b.Kind) then ((a_a.Bits : Int) == a_b.Bits) else false) then ((a_a.Lanes : Int) == a_b.Lanes) else false) then ((a_a.Dst : Int) == a_b.Dst) else false) == true) = true), (((bif (bif (bif (bif ((a_a.Kind : Int) == a_b.Kind) then ((a_a.Bits : Int) == a_b.Bits) else false) then ((a_a.Lanes : Int) == a_b.Lanes) else false) then ((a_a.Dst : Int) == a_b.Dst) else false) then ((a_a.Imm : Int) == a_b.Imm) else false) == true) = true → ((bif (bif (bif (bif ((a_a.Kind : Int) == a_b.Kind) then ((a_a.Bits : Int) == a_b.Bits) else false) then ((a_a.Lanes : Int) == a_b.Lanes) else false) then ((a_a.Dst : Int) == a_b.Dst) else false) then ((a_a.Imm : Int) == a_b.Imm) else false) == true) = true), (((bif (bif (bif (bif ((a_a.Kind : Int) == a_b.Kind) then ((a_a.Bits : Int) == a_b.Bits) else false) then ((a_a.Lanes : Int) == a_b.Lanes) else false) then ((a_a.Dst : Int) == a_b.Dst) else false) then ((a_a.Imm : Int) == a_b.Imm) else false) == true) = true → (4 < List.length (α := AV) [(.int .i64 a_a.Kind), (.int .i64 a_a.Bits), (.int .i64 a_a.Lanes), (.int .i64 a_a.Dst), (AV.list 1 eI64 (0 : Int) a_a.Args .none), (.int .u64 a_a.Imm)])), (((bif (bif (bif (bif ((a_a.Kind : Int) == a_b.Kind) then ((a_a.Bits : Int) == a_b.Bits) else false) then ((a_a.Lanes : Int) == a_b.Lanes) else false) then ((a_a.Dst : Int) == a_b.Dst) else false) then ((a_a.Imm : Int) == a_b.Imm) else false) == true) = true → ((bif (bif (bif (bif ((a_a.Kind : Int) == a_b.Kind) then ((a_a.Bits : Int) == a_b.Bits) else false) then ((a_a.Lanes : Int) == a_b.Lanes) else false) then ((a_a.Dst : Int) == a_b.Dst) else false) then ((a_a.Imm : Int) == a_b.Imm) else false) == true) = true), (((bif (bif (bif (bif ((a_a.Kind : Int) == a_b.Kind) then ((a_a.Bits : Int) == a_b.Bits) else false) then ((a_a.Lanes : Int) == a_b.Lanes) else false) then ((a_a.Dst : Int) == a_b.Dst) else false) then ((a_a.Imm : Int) == a_b.Imm) else false) == true) = true → (4 < List.length (α := AV) [(.int .i64 a_b.Kind), (.int .i64 a_b.Bits), (.int .i64 a_b.Lanes), (.int .i64 a_b.Dst), (AV.list 1 eI64 (0 : Int) a_b.Args .none), (.int .u64 a_b.Imm)])), (((bif (bif (bif (bif ((a_a.Kind : Int) == a_b.Kind) then ((a_a.Bits : Int) == a_b.Bits) else false) then ((a_a.Lanes : Int) == a_b.Lanes) else false) then ((a_a.Dst : Int) == a_b.Dst) else false) then ((a_a.Imm : Int) == a_b.Imm) else false) == true) = true → ((bif (bif (bif (bif ((a_a.Kind : Int) == a_b.Kind) then ((a_a.Bits : Int) == a_b.Bits) else false) then ((a_a.Lanes : Int) == a_b.Lanes) else false) then ((a_a.Dst : Int) == a_b.Dst) else false) then ((a_a.Imm : Int) == a_b.Imm) else false) == true) = true), (((bif (bif (bif (bif ((a_a.Kind : Int) == a_b.Kind) then ((a_a.Bits : Int) == a_b.Bits) else false) then ((a_a.Lanes : Int) == a_b.Lanes) else false) then ((a_a.Dst : Int) == a_b.Dst) else false) then ((a_a.Imm : Int) == a_b.Imm) else false) == true) = true → ((bif (bif (bif (bif ((a_a.Kind : Int) == a_b.Kind) then ((a_a.Bits : Int) == a_b.Bits) else false) then ((a_a.Lanes : Int) == a_b.Lanes) else false) then ((a_a.Dst : Int) == a_b.Dst) else false) then ((a_a.Imm : Int) == a_b.Imm) else false) == true) = true), (((bif (bif (bif (bif ((a_a.Kind : Int) == a_b.Kind) then ((a_a.Bits : Int) == a_b.Bits) else false) then ((a_a.Lanes : Int) == a_b.Lanes) else false) then ((a_a.Dst : Int) == a_b.Dst) else false) then ((a_a.Imm : Int) == a_b.Imm) else false) == true) = true → (Spec Try.prog 35 [(AV.list 1 eI64 (0 : Int) a_a.Args .none), (AV.list 1 eI64 (0 : Int) a_b.Args .none)] [] (.bool x1) [])), ((bif (bif (bif (bif ((a_a.Kind : Int) == a_b.Kind) then ((a_a.Bits : Int) == a_b.Bits) else false) then ((a_a.Lanes : Int) == a_b.Lanes) else false) then ((a_a.Dst : Int) == a_b.Dst) else false) then ((a_a.Imm : Int) == a_b.Imm) else false) = true → ((bif (bif (bif (bif ((a_a.Kind : Int) == a_b.Kind) then ((a_a.Bits : Int) == a_b.Bits) else false) then ((a_a.Lanes : Int) == a_b.Lanes) else false) then ((a_a.Dst : Int) == a_b.Dst) else false) then ((a_a.Imm : Int) == a_b.Imm) else false) == true) = true)]) hn mix (no_hand hΓ) (by kernel_rfl) ⟨(Nat.le_of_ble_eq_true rfl), (Nat.le_of_ble_eq_true rfl), (fun hg => hg), (fun hg => (Nat.le_of_ble_eq_true rfl)), (fun hg => hg), (fun hg => (Nat.le_of_ble_eq_true rfl)), (fun hg => hg), (fun hg => hg), (fun hp => by rw [hp]; rfl), (fun hg => hg), (fun hg => (Nat.le_of_ble_eq_true rfl)), (fun hg => hg), (fun hg => (Nat.le_of_ble_eq_true rfl)), (fun hg => hg), (fun hg => hg), (fun hp => by rw [hp]; rfl), (fun hg => hg), (fun hg => (Nat.le_of_ble_eq_true rfl)), (fun hg => hg), (fun hg => (Nat.le_of_ble_eq_true rfl)), (fun hg => hg), (fun hg => hg), (fun hp => by rw [hp]; rfl), (fun hg => hg), (fun hg => (Nat.le_of_ble_eq_true rfl)), (fun hg => hg), (fun hg => (Nat.le_of_ble_eq_true rfl)), (fun hg => hg), (fun hg => hg), (fun hp => by rw [hp]; rfl), (fun hg => hg), (fun hg => (Nat.le_of_ble_eq_true rfl)), (fun hg => hg), (fun hg => (Nat.le_of_ble_eq_true rfl)), (fun hg => hg), (fun hg => hg), (fun hg => (ok_slices_Equal_int_int a_a.Args a_b.Args x1 (cond_t hg hx1))), (fun hp => by rw [hp]; rfl), trivial⟩ ?_
  refine then_normal ?_
  refine awp_ret ?_
  obtain rfl := Option.some.inj h
  exact ⟨.inl rfl, [], by kernel_rfl⟩

noncomputable def m_lockstepref02_Ints_L1 (a_a : List (Int)) (a_b : List (Int)) : Int → Option (LR Int (Unit ⊕ Bool)) :=
  fun (i1 : Int) => (bif (decide ((i1 : Int) < (a_a.length : Int))) then (chk (InB i1 a_a.length) (chk (InB i1 a_b.length) (bif (((a_a.getD (i1).toNat (0 : Int)) : Int) != (a_b.getD (i1).toNat (0 : Int))) then (some (.done (.inr false))) else (some (.next (w64 (i1 + (1 : Int)))))))) else (some (.done (.inl ()))))
noncomputable def m_lockstepref02_Ints (a_a : List (Int)) (a_b : List (Int)) : Option Bool :=
  (bif (((a_a.length : Int) : Int) != (a_b.length : Int)) then (some false) else ((loopO (S := Int) (X := (Unit ⊕ Bool)) (m_lockstepref02_Ints_L1 a_a a_b) (0 : Int)).bind (fun x4 => (match x4 with | (.inl _) => (some true) | (.inr r6) => (some r6)))))
theorem ok_lockstepref02_Ints (a_a : List (Int)) (a_b : List (Int)) (r : Bool) (h : m_lockstepref02_Ints a_a a_b = some r) : Spec Try.prog 36 [(AV.list 1 eI64 (0 : Int) a_a .none), (AV.list 1 eI64 (0 : Int) a_b .none)] [] (.bool r) [] := by
  refine spec_of_awp (fn := Try.f36) Try.func36 rfl rfl (by kernel_rfl) (fun Γ hn hΓ => ?_)
  have hn : Γ.n = 26 := hn
  unfold m_lockstepref02_Ints at h
  refine awp_seq ?_
  refine awp_region (rs := []) (cs := []) (live := [0, 1]) (names := []) (st' := (⟨[(0, (AV.list 1 eI64 (0 : Int) a_a .none)), (1, (AV.list 1 eI64 (0 : Int) a_b .none))], []⟩ : St)) (obs := []) hn mix (no_hand hΓ) (by kernel_rfl) trivial ?_
  refine then_normal ?_
  refine awp_seq ?_
  refine awp_seq ?_
  refine awp_region (rs := []) (cs := []) (live := [0, 1, 10]) (names := []) (st' := (⟨[(0, (AV.list 1 eI64 (0 : Int) a_a .none)), (1, (AV.list 1 eI64 (0 : Int) a_b .none)), (10, (.bool (((a_a.length : Int) : Int) != (a_b.length : Int))))], []⟩ : St)) (obs := []) hn mix (no_hand hΓ) (by kernel_rfl) trivial ?_
  refine then_normal ?_
  refine awp_cond (((a_a.length : Int) : Int) != (a_b.length : Int)) (by kernel_rfl) (fun hb => ?_) (fun hb => ?_)
  · replace h := cond_t hb h
    clear hb
    refine awp_seq ?_
    refine awp_region (rs := []) (cs := []) (live := [4]) (names := []) (st' := (⟨[(4, (.bool false))], []⟩ : St)) (obs := []) hn mix (no_hand hΓ) (by kernel_rfl) trivial ?_
    refine then_normal ?_
    refine awp_ret ?_
    refine then_ret ?_
    obtain rfl := Option.some.inj h
    exact ⟨.inl rfl, [], by kernel_rfl⟩
  · replace h := cond_f hb h
    clear hb
    refine awp_skip ?_
    refine then_normal ?_
    refine awp_seq ?_
    refine awp_seq ?_
    refine awp_region (rs := []) (cs := []) (live := [0, 1, 5]) (names := []) (st' := (⟨[(0, (AV.list 1 eI64 (0 : Int) a_a .none)), (1, (AV.list 1 eI64 (0 : Int) a_b .none)), (5, (.int .i64 (0 : Int)))], []⟩ : St)) (obs := []) hn mix (no_hand hΓ) (by kernel_rfl) trivial ?_
    refine then_normal ?_
    refine awp_block ?_
    refine awp_le (st' := (fun (i1 : Int) => (⟨[(0, (AV.list 1 eI64 (0 : Int) a_a .none)), (1, (AV.list 1 eI64 (0 : Int) a_b .none)), (5, (.int .i64 i1))], []⟩ : St)) (0 : Int)) (Le.refl _ _) ?_
    obtain ⟨x4, hx4, h⟩ := bind_some h
    refine awp_loop (fun (i1 : Int) => (⟨[(0, (AV.list 1 eI64 (0 : Int) a_a .none)), (1, (AV.list 1 eI64 (0 : Int) a_b .none)), (5, (.int .i64 i1))], []⟩ : St)) _ (fun (x_ : (Unit ⊕ Bool)) (e : Exit) (st : St) => match x_ with | (.inl _) => e = (.exit 0) ∧ Le Γ st (⟨[], []⟩ : St) | (.inr r_) => e = .ret ∧ retK Try.prog Try.f36.results.toList [] (.bool r_) [] e st) ?_ hx4 ?_
    · intro i1 y h
      unfold m_lockstepref02_Ints_L1 at h
      refine awp_seq ?_
      refine awp_seq ?_
      refine awp_region (rs := []) (cs := []) (live := [0, 1, 5, 14]) (names := []) (st' := (⟨[(0, (AV.list 1 eI64 (0 : Int) a_a .none)), (1, (AV.list 1 eI64 (0 : Int) a_b .none)), (5, (.int .i64 i1)), (14, (.bool (decide ((i1 : Int) < (a_a.length : Int)))))], []⟩ : St)) (obs := []) hn mix (no_hand hΓ) (by kernel_rfl) trivial ?_
      refine then_normal ?_
      refine awp_cond (decide ((i1 : Int) < (a_a.length : Int))) (by kernel_rfl) (fun hb => ?_) (fun hb => ?_)
      · replace h := cond_t hb h
        clear hb
        refine awp_skip ?_
        refine then_normal ?_
        refine awp_seq ?_
        refine awp_block ?_
        refine awp_seq ?_
        obtain ⟨hc2, h⟩ := chk_some h
        obtain ⟨hc3, h⟩ := chk_some h
        refine awp_region (rs := []) (cs := []) (live := [0, 1, 5, 25]) (names := []) (st' := (⟨[(0, (AV.list 1 eI64 (0 : Int) a_a .none)), (1, (AV.list 1 eI64 (0 : Int) a_b .none)), (5, (.int .i64 i1)), (25, (.bool (((a_a.getD (i1).toNat (0 : Int)) : Int) != (a_b.getD (i1).toNat (0 : Int)))))], []⟩ : St)) (obs := [(InB i1 a_a.length), (InB i1 a_b.length)]) hn mix (no_hand hΓ) (by kernel_rfl) ⟨hc2, hc3, trivial⟩ ?_
        refine then_normal ?_
        refine awp_cond (((a_a.getD (i1).toNat (0 : Int)) : Int) != (a_b.getD (i1).toNat (0 : Int))) (by kernel_rfl) (fun hb => ?_) (fun hb => ?_)
        · replace h := cond_t hb h
          clear hb
          refine awp_seq ?_
          refine awp_region (rs := []) (cs := []) (live := [4]) (names := []) (st' := (⟨[(4, (.bool false))], []⟩ : St)) (obs := []) hn mix (no_hand hΓ) (by kernel_rfl) trivial ?_
          refine then_normal ?_
          refine awp_ret ?_
          refine block_ret ?_
          refine then_ret ?_
          obtain rfl := Option.some.inj h
          exact ⟨(by intro hh; cases hh), rfl, ⟨.inl rfl, [], by kernel_rfl⟩⟩
        · replace h := cond_f hb h
          clear hb
          refine awp_skip ?_
          refine block_normal ?_
          refine then_normal ?_
          refine awp_region (rs := []) (cs := []) (live := [0, 1, 5]) (names := []) (st' := (⟨[(0, (AV.list 1 eI64 (0 : Int) a_a .none)), (1, (AV.list 1 eI64 (0 : Int) a_b .none)), (5, (.int .i64 (w64 (i1 + (1 : Int)))))], []⟩ : St)) (obs := []) hn mix (no_hand hΓ) (by kernel_rfl) trivial ?_
          obtain rfl := Option.some.inj h
          exact ⟨rfl, Le.refl _ _⟩
      · replace h := cond_f hb h
        clear hb
        refine awp_exit ?_
        refine then_exit ?_
        obtain rfl := Option.some.inj h
        exact ⟨(by intro hh; cases hh), rfl, le_restrict_eq [] [] (by kernel_rfl) (no_hand hΓ)⟩
    · clear hx4
      rcases x4 with _ | r6
      · rintro e st' ⟨rfl, hl5⟩
        refine block_here ?_
        refine then_normal ?_
        refine awp_le hl5 ?_
        refine awp_seq ?_
        refine awp_region (rs := []) (cs := []) (live := [4]) (names := []) (st' := (⟨[(4, (.bool true))], []⟩ : St)) (obs := []) hn mix (no_hand hΓ) (by kernel_rfl) trivial ?_
        refine then_normal ?_
        refine awp_ret ?_
        obtain rfl := Option.some.inj h
        exact ⟨.inl rfl, [], by kernel_rfl⟩
      · rintro e st' ⟨rfl, hk⟩
        refine block_ret ?_
        refine then_ret ?_
        obtain rfl := Option.some.inj h
        exact hk

noncomputable def m_lockstepref03_Same (a_a : TOp) (a_b : TOp) : Option Bool :=
  ((bif ((bif (bif (bif (bif ((a_a.Kind : Int) == a_b.Kind) then ((a_a.Bits : Int) == a_b.Bits) else false) then ((a_a.Lanes : Int) == a_b.Lanes) else false) then ((a_a.Dst : Int) == a_b.Dst) else false) then ((a_a.Imm : Int) == a_b.Imm) else false) == true) then m_lockstepref02_Ints a_a.Args a_b.Args else some (false)).bind fun x1 => (some (bif (bif (bif (bif (bif ((a_a.Kind : Int) == a_b.Kind) then ((a_a.Bits : Int) == a_b.Bits) else false) then ((a_a.Lanes : Int) == a_b.Lanes) else false) then ((a_a.Dst : Int) == a_b.Dst) else false) then ((a_a.Imm : Int) == a_b.Imm) else false) then x1 else false)))
theorem ok_lockstepref03_Same (a_a : TOp) (a_b : TOp) (r : Bool) (h : m_lockstepref03_Same a_a a_b = some r) : Spec Try.prog 22 [(.agg (eTOp a_a)), (.agg (eTOp a_b))] [] (.bool r) [] := by
  refine spec_of_awp (fn := Try.f22) Try.func22 rfl rfl (by kernel_rfl) (fun Γ hn hΓ => ?_)
  have hn : Γ.n = 45 := hn
  unfold m_lockstepref03_Same at h
  refine awp_seq ?_
  refine awp_region (rs := []) (cs := []) (live := [2, 3]) (names := [2, 3]) (st' := (⟨[(2, (.ptr 2 0)), (3, (.ptr 3 0))], [(2, .row [(.int .i64 a_a.Kind), (.int .i64 a_a.Bits), (.int .i64 a_a.Lanes), (.int .i64 a_a.Dst), (AV.list 1 eI64 (0 : Int) a_a.Args .none), (.int .u64 a_a.Imm)]), (3, .row [(.int .i64 a_b.Kind), (.int .i64 a_b.Bits), (.int .i64 a_b.Lanes), (.int .i64 a_b.Dst), (AV.list 1 eI64 (0 : Int) a_b.Args .none), (.int .u64 a_b.Imm)])]⟩ : St)) (obs := []) hn mix (no_hand hΓ) (by kernel_rfl) trivial ?_
  refine then_normal ?_
  refine awp_seq ?_
  obtain ⟨x1, hx1, h⟩ := bind_some h
  refine awp_region (rs := [⟨[], [], (.bool x1), []⟩]) (cs := []) (live := [4]) (names := []) (st' := (⟨[(4, (.bool (bif (bif (bif (bif (bif ((a_a.Kind : Int) == a_b.Kind) then ((a_a.Bits : Int) == a_b.Bits) else false) then ((a_a.Lanes : Int) == a_b.Lanes) else false) then ((a_a.Dst : Int) == a_b.Dst) else false) then ((a_a.Imm : Int) == a_b.Imm) else false) then x1 else false)))], []⟩ : St)) (obs := [(0 < List.length (α := AV) [(.int .i64 a_a.Kind), (.int .i64 a_a.Bits), (.int .i64 a_a.Lanes), (.int .i64 a_a.Dst), (AV.list 1 eI64 (0 : Int) a_a.Args .none), (.int .u64 a_a.Imm)]), (0 < List.length (α := AV) [(.int .i64 a_b.Kind), (.int .i64 a_b.Bits), (.int .i64 a_b.Lanes), (.int .i64 a_b.Dst), (AV.list 1 eI64 (0 : Int) a_b.Args .none), (.int .u64 a_b.Imm)]), ((((a_a.Kind : Int) == a_b.Kind) == true) = true → (((a_a.Kind : Int) == a_b.Kind) == true) = true), ((((a_a.Kind : Int) == a_b.Kind) == true) = true → (1 < List.length (α := AV) [(.int .i64 a_a.Kind), (.int .i64 a_a.Bits), (.int .i64 a_a.Lanes), (.int .i64 a_a.Dst), (AV.list 1 eI64 (0 : Int) a_a.Args .none), (.int .u64 a_a.Imm)])), ((((a_a.Kind : Int) == a_b.Kind) == true) = true → (((a_a.Kind : Int) == a_b.Kind) == true) = true), ((((a_a.Kind : Int) == a_b.Kind) == true) = true → (1 < List.length (α := AV) [(.int .i64 a_b.Kind), (.int .i64 a_b.Bits), (.int .i64 a_b.Lanes), (.int .i64 a_b.Dst), (AV.list 1 eI64 (0 : Int) a_b.Args .none), (.int .u64 a_b.Imm)])), ((((a_a.Kind : Int) == a_b.Kind) == true) = true → (((a_a.Kind : Int) == a_b.Kind) == true) = true), ((((a_a.Kind : Int) == a_b.Kind) == true) = true → (((a_a.Kind : Int) == a_b.Kind) == true) = true), (((a_a.Kind : Int) == a_b.Kind) = true → (((a_a.Kind : Int) == a_b.Kind) == true) = true), (((bif ((a_a.Kind : Int) == a_b.Kind) then ((a_a.Bits : Int) == a_b.Bits) else false) == true) = true → ((bif ((a_a.Kind : Int) == a_b.Kind) then ((a_a.Bits : Int) == a_b.Bits) else false) == true) = true), (((bif ((a_a.Kind : Int) == a_b.Kind) then ((a_a.Bits : Int) == a_b.Bits) else false) == true) = true → (2 < List.length (α := AV) [(.int .i64 a_a.Kind), (.int .i64 a_a.Bits), (.int .i64 a_a.Lanes), (.int .i64 a_a.Dst), (AV.list 1 eI64 (0 : Int) a_a.Args .none), (.int .u64 a_a.Imm)])), (((bif ((a_a.Kind : Int) == a_b.Kind) then ((a_a.Bits : Int) == a_b.Bits) else false) == true) = true → ((bif ((a_a.Kind : Int) == a_b.Kind) then ((a_a.Bits : Int) == a_b.Bits) else false) == true) = true), (((bif ((a_a.Kind : Int) == a_b.Kind) then ((a_a.Bits : Int) == a_b.Bits) else false) == true) = true → (2 < List.length (α := AV) [(.int .i64 a_b.Kind), (.int .i64 a_b.Bits), (.int .i64 a_b.Lanes), (.int .i64 a_b.Dst), (AV.list 1 eI64 (0 : Int) a_b.Args .none), (.int .u64 a_b.Imm)])), (((bif ((a_a.Kind : Int) == a_b.Kind) then ((a_a.Bits : Int) == a_b.Bits) else false) == true) = true → ((bif ((a_a.Kind : Int) == a_b.Kind) then ((a_a.Bits : Int) == a_b.Bits) else false) == true) = true), (((bif ((a_a.Kind : Int) == a_b.Kind) then ((a_a.Bits : Int) == a_b.Bits) else false) == true) = true → ((bif ((a_a.Kind : Int) == a_b.Kind) then ((a_a.Bits : Int) == a_b.Bits) else false) == true) = true), ((bif ((a_a.Kind : Int) == a_b.Kind) then ((a_a.Bits : Int) == a_b.Bits) else false) = true → ((bif ((a_a.Kind : Int) == a_b.Kind) then ((a_a.Bits : Int) == a_b.Bits) else false) == true) = true), (((bif (bif ((a_a.Kind : Int) == a_b.Kind) then ((a_a.Bits : Int) == a_b.Bits) else false) then ((a_a.Lanes : Int) == a_b.Lanes) else false) == true) = true → ((bif (bif ((a_a.Kind : Int) == a_b.Kind) then ((a_a.Bits : Int) == a_b.Bits) else false) then ((a_a.Lanes : Int) == a_b.Lanes) else false) == true) = true), (((bif (bif ((a_a.Kind : Int) == a_b.Kind) then ((a_a.Bits : Int) == a_b.Bits) else false) then ((a_a.Lanes : Int) == a_b.Lanes) else false) == true) = true → (3 < List.length (α := AV) [(.int .i64 a_a.Kind), (.int .i64 a_a.Bits), (.int .i64 a_a.Lanes), (.int .i64 a_a.Dst), (AV.list 1 eI64 (0 : Int) a_a.Args .none), (.int .u64 a_a.Imm)])), (((bif (bif ((a_a.Kind : Int) == a_b.Kind) then ((a_a.Bits : Int) == a_b.Bits) else false) then ((a_a.Lanes : Int) == a_b.Lanes) else false) == true) = true → ((bif (bif ((a_a.Kind : Int) == a_b.Kind) then ((a_a.Bits : Int) == a_b.Bits) else false) then ((a_a.Lanes : Int) == a_b.Lanes) else false) == true) = true), (((bif (bif ((a_a.Kind : Int) == a_b.Kind) then ((a_a.Bits : Int) == a_b.Bits) else false) then ((a_a.Lanes : Int) == a_b.Lanes) else false) == true) = true → (3 < List.length (α := AV) [(.int .i64 a_b.Kind), (.int .i64 a_b.Bits), (.int .i64 a_b.Lanes), (.int .i64 a_b.Dst), (AV.list 1 eI64 (0 : Int) a_b.Args .none), (.int .u64 a_b.Imm)])), (((bif (bif ((a_a.Kind : Int) == a_b.Kind) then ((a_a.Bits : Int) == a_b.Bits) else false) then ((a_a.Lanes : Int) == a_b.Lanes) else false) == true) = true → ((bif (bif ((a_a.Kind : Int) == a_b.Kind) then ((a_a.Bits : Int) == a_b.Bits) else false) then ((a_a.Lanes : Int) == a_b.Lanes) else false) == true) = true), (((bif (bif ((a_a.Kind : Int) == a_b.Kind) then ((a_a.Bits : Int) == a_b.Bits) else false) then ((a_a.Lanes : Int) == a_b.Lanes) else false) == true) = true → ((bif (bif ((a_a.Kind : Int) == a_b.Kind) then ((a_a.Bits : Int) == a_b.Bits) else false) then ((a_a.Lanes : Int) == a_b.Lanes) else false) == true) = true), ((bif (bif ((a_a.Kind : Int) == a_b.Kind) then ((a_a.Bits : Int) == a_b.Bits) else false) then ((a_a.Lanes : Int) == a_b.Lanes) else false) = true → ((bif (bif ((a_a.Kind : Int) == a_b.Kind) then ((a_a.Bits : Int) == a_b.Bits) else false) then ((a_a.Lanes : Int) == a_b.Lanes) else false) == true) = true), (((bif (bif (bif ((a_a.Kind : Int) == a_b.Kind) then ((a_a.Bits : Int) == a_b.Bits) else false) then ((a_a.Lanes : Int) == a_b.Lanes) else false) then ((a_a.Dst : Int) == a_b.Dst) else false) == true) = true → ((bif (bif (bif ((a_a.Kind : Int) == a_b.Kind) then ((a_a.Bits : Int) == a_b.Bits) else false) then ((a_a.Lanes : Int) == a_b.Lanes) else false) then ((a_a.Dst : Int) == a_b.Dst) else false) == true) = true), (((bif (bif (bif ((a_a.Kind : Int) == a_b.Kind) then ((a_a.Bits : Int) == a_b.Bits) else false) then ((a_a.Lanes : Int) == a_b.Lanes) else false) then ((a_a.Dst : Int) == a_b.Dst) else false) == true) = true → (5 < List.length (α := AV) [(.int .i64 a_a.Kind), (.int .i64 a_a.Bits), (.int .i64 a_a.Lanes), (.int .i64 a_a.Dst), (AV.list 1 eI64 (0 : Int) a_a.Args .none), (.int .u64 a_a.Imm)])), (((bif (bif (bif ((a_a.Kind : Int) == a_b.Kind) then ((a_a.Bits : Int) == a_b.Bits) else false) then ((a_a.Lanes : Int) == a_b.Lanes) else false) then ((a_a.Dst : Int) == a_b.Dst) else false) == true) = true → ((bif (bif (bif ((a_a.Kind : Int) == a_b.Kind) then ((a_a.Bits : Int) == a_b.Bits) else false) then ((a_a.Lanes : Int) == a_b.Lanes) else false) then ((a_a.Dst : Int) == a_b.Dst) else false) == true) = true), (((bif (bif (bif ((a_a.Kind : Int) == a_b.Kind) then ((a_a.Bits : Int) == a_b.Bits) else false) then ((a_a.Lanes : Int) == a_b.Lanes) else false) then ((a_a.Dst : Int) == a_b.Dst) else false) == true) = true → (5 < List.length (α := AV) [(.int .i64 a_b.Kind), (.int .i64 a_b.Bits), (.int .i64 a_b.Lanes), (.int .i64 a_b.Dst), (AV.list 1 eI64 (0 : Int) a_b.Args .none), (.int .u64 a_b.Imm)])), (((bif (bif (bif ((a_a.Kind : Int) == a_b.Kind) then ((a_a.Bits : Int) == a_b.Bits) else false) then ((a_a.Lanes : Int) == a_b.Lanes) else false) then ((a_a.Dst : Int) == a_b.Dst) else false) == true) = true → ((bif (bif (bif ((a_a.Kind : Int) == a_b.Kind) then ((a_a.Bits : Int) == a_b.Bits) else false) then ((a_a.Lanes : Int) == a_b.Lanes) else false) then ((a_a.Dst : Int) == a_b.Dst) else false) == true) = true), (((bif (bif (bif ((a_a.Kind : Int) == a_b.Kind) then ((a_a.Bits : Int) == a_b.Bits) else false) then ((a_a.Lanes : Int) == a_b.Lanes) else false) then ((a_a.Dst : Int) == a_b.Dst) else false) == true) = true → ((bif (bif (bif ((a_a.Kind : Int) == a_b.Kind) then ((a_a.Bits : Int) == a_b.Bits) else false) then ((a_a.Lanes : Int) == a_b.Lanes) else false) then ((a_a.Dst : Int) == a_b.Dst) else false) == true) = true), ((bif (bif (bif ((a_a.Kind : Int) == a_b.Kind) then ((a_a.Bits : Int) == a_b.Bits) else false) then ((a_a.Lanes : Int) == a_b.Lanes) else false) then ((a_a.Dst : Int) == a_b.Dst) else false) = true → ((bif (bif (bif ((a_a.Kind : Int) == a_b.Kind) then ((a_a.Bits : Int) == a_b.Bits) else false) then ((a_a.Lanes : Int) == a_b.Lanes) else false) then ((a_a.Dst : Int) == a_b.Dst) else false) == true) = true), (((bif (bif (bif (bif ((a_a.Kind : Int) == a_b.Kind) then ((a_a.Bits : Int) == a_b.Bits) else false) then ((a_a.Lanes : Int) == a_b.Lanes) else false) then ((a_a.Dst : Int) == a_b.Dst) else false) then ((a_a.Imm : Int) == a_b.Imm) else false) == true) = true → ((bif (bif (bif (bif ((a_a.Kind : Int) == a_b.Kind) then ((a_a.Bits : Int) == a_b.Bits) else false) then ((a_a.Lanes : Int) == a_b.Lanes) else false) then ((a_a.Dst : Int) == a_b.Dst) else false) then ((a_a.Imm : Int) == a_b.Imm) else false) == true) = true), (((bif (bif (bif (bif ((a_a.Kind : Int) == a_b.Kind) then ((a_a.Bits : Int) == a_b.Bits) else false) then ((a_a.Lanes : Int) == a_b.Lanes) else false) then ((a_a.Dst : Int) == a_b.Dst) else false) then ((a_a.Imm : Int) == a_b.Imm) else false) == true) = true → (4 < List.length (α := AV) [(.int .i64 a_a.Kind), (.int .i64 a_a.Bits), (.int .i64 a_a.Lanes), (.int .i64 a_a.Dst), (AV.list 1 eI64 (0 : Int) a_a.Args .none), (.int .u64 a_a.Imm)])), (((bif (bif (bif (bif ((a_a.Kind : Int) == a_b.Kind) then ((a_a.Bits : Int) == a_b.Bits) else false) then ((a_a.Lanes : Int) == a_b.Lanes) else false) then ((a_a.Dst : Int) == a_b.Dst) else false) then ((a_a.Imm : Int) == a_b.Imm) else false) == true) = true → ((bif (bif (bif (bif ((a_a.Kind : Int) == a_b.Kind) then ((a_a.Bits : Int) == a_b.Bits) else false) then ((a_a.Lanes : Int) == a_b.Lanes) else false) then ((a_a.Dst : Int) == a_b.Dst) else false) then ((a_a.Imm : Int) == a_b.Imm) else false) == true) = true), (((bif (bif (bif (bif ((a_a.Kind : Int) == a_b.Kind) then ((a_a.Bits : Int) == a_b.Bits) else false) then ((a_a.Lanes : Int) == a_b.Lanes) else false) then ((a_a.Dst : Int) == a_b.Dst) else false) then ((a_a.Imm : Int) == a_b.Imm) else false) == true) = true → (4 < List.length (α := AV) [(.int .i64 a_b.Kind), (.int .i64 a_b.Bits), (.int .i64 a_b.Lanes), (.int .i64 a_b.Dst), (AV.list 1 eI64 (0 : Int) a_b.Args .none), (.int .u64 a_b.Imm)])), (((bif (bif (bif (bif ((a_a.Kind : Int) == a_b.Kind) then ((a_a.Bits : Int) == a_b.Bits) else false) then ((a_a.Lanes : Int) == a_b.Lanes) else false) then ((a_a.Dst : Int) == a_b.Dst) else false) then ((a_a.Imm : Int) == a_b.Imm) else false) == true) = true → ((bif (bif (bif (bif ((a_a.Kind : Int) == a_b.Kind) then ((a_a.Bits : Int) == a_b.Bits) else false) then ((a_a.Lanes : Int) == a_b.Lanes) else false) then ((a_a.Dst : Int) == a_b.Dst) else false) then ((a_a.Imm : Int) == a_b.Imm) else false) == true) = true), (((bif (bif (bif (bif ((a_a.Kind : Int) == a_b.Kind) then ((a_a.Bits : Int) == a_b.Bits) else false) then ((a_a.Lanes : Int) == a_b.Lanes) else false) then ((a_a.Dst : Int) == a_b.Dst) else false) then ((a_a.Imm : Int) == a_b.Imm) else false) == true) = true → ((bif (bif (bif (bif ((a_a.Kind : Int) == a_b.Kind) then ((a_a.Bits : Int) == a_b.Bits) else false) then ((a_a.Lanes : Int) == a_b.Lanes) else false) then ((a_a.Dst : Int) == a_b.Dst) else false) then ((a_a.Imm : Int) == a_b.Imm) else false) == true) = true), (((bif (bif (bif (bif ((a_a.Kind : Int) == a_b.Kind) then ((a_a.Bits : Int) == a_b.Bits) else false) then ((a_a.Lanes : Int) == a_b.Lanes) else false) then ((a_a.Dst : Int) == a_b.Dst) else false) then ((a_a.Imm : Int) == a_b.Imm) else false) == true) = true → (Spec Try.prog 36 [(AV.list 1 eI64 (0 : Int) a_a.Args .none), (AV.list 1 eI64 (0 : Int) a_b.Args .none)] [] (.bool x1) [])), ((bif (bif (bif (bif ((a_a.Kind : Int) == a_b.Kind) then ((a_a.Bits : Int) == a_b.Bits) else false) then ((a_a.Lanes : Int) == a_b.Lanes) else false) then ((a_a.Dst : Int) == a_b.Dst) else false) then ((a_a.Imm : Int) == a_b.Imm) else false) = true → ((bif (bif (bif (bif ((a_a.Kind : Int) == a_b.Kind) then ((a_a.Bits : Int) == a_b.Bits) else false) then ((a_a.Lanes : Int) == a_b.Lanes) else false) then ((a_a.Dst : Int) == a_b.Dst) else false) then ((a_a.Imm : Int) == a_b.Imm) else false) == true) = true)]) hn mix (no_hand hΓ) (by kernel_rfl) ⟨(Nat.le_of_ble_eq_true rfl), (Nat.le_of_ble_eq_true rfl), (fun hg => hg), (fun hg => (Nat.le_of_ble_eq_true rfl)), (fun hg => hg), (fun hg => (Nat.le_of_ble_eq_true rfl)), (fun hg => hg), (fun hg => hg), (fun hp => by rw [hp]; rfl), (fun hg => hg), (fun hg => (Nat.le_of_ble_eq_true rfl)), (fun hg => hg), (fun hg => (Nat.le_of_ble_eq_true rfl)), (fun hg => hg), (fun hg => hg), (fun hp => by rw [hp]; rfl), (fun hg => hg), (fun hg => (Nat.le_of_ble_eq_true rfl)), (fun hg => hg), (fun hg => (Nat.le_of_ble_eq_true rfl)), (fun hg => hg), (fun hg => hg), (fun hp => by rw [hp]; rfl), (fun hg => hg), (fun hg => (Nat.le_of_ble_eq_true rfl)), (fun hg => hg), (fun hg => (Nat.le_of_ble_eq_true rfl)), (fun hg => hg), (fun hg => hg), (fun hp => by rw [hp]; rfl), (fun hg => hg), (fun hg => (Nat.le_of_ble_eq_true rfl)), (fun hg => hg), (fun hg => (Nat.le_of_ble_eq_true rfl)), (fun hg => hg), (fun hg => hg), (fun hg => (ok_lockstepref02_Ints a_a.Args a_b.Args x1 (cond_t hg hx1))), (fun hp => by rw [hp]; rfl), trivial⟩ ?_
  refine then_normal ?_
  refine awp_ret ?_
  obtain rfl := Option.some.inj h
  exact ⟨.inl rfl, [], by kernel_rfl⟩

noncomputable def m_locksteplaw03_KindSame_L1 (x7 : List ((Int × Int))) : Int → Option (LR Int (Unit ⊕ Bool)) :=
  fun (i8 : Int) => (bif (decide ((i8 : Int) < (x7.length : Int))) then (chk (InB i8 x7.length) (chk (InB i8 x7.length) ((m_kind_Shape ((x7.getD (i8).toNat ((0 : Int), (0 : Int))).1) ((x7.getD (i8).toNat ((0 : Int), (0 : Int))).2)).bind fun x11 => (bif (!x11) then (some (.done (.inr false))) else (some (.next (w64 (i8 + (1 : Int))))))))) else (some (.done (.inl ()))))
noncomputable def m_locksteplaw03_KindSame (a_a : TOp) (a_p1 : TOp) : Option Bool :=
  ((m_locksteplaw03_awake).bind fun x1 => (bif (!x1) then (some false) else (bif (bif (decide (((100 : Int) : Int) < (a_a.Args.length : Int))) then true else (decide (((100 : Int) : Int) < (a_p1.Args.length : Int)))) then (some true) else ((m_kind_Same a_a a_p1).bind fun x2 => ((m_lockstepref03_Same a_a a_p1).bind fun x3 => ((bif ((x2 != x3) == false) then m_kind_Same a_a a_a else some (false)).bind fun x4 => ((bif ((bif (x2 != x3) then true else (!x4)) == false) then m_kind_Same a_a a_p1 else some (false)).bind fun x5 => ((bif ((bif (x2 != x3) then true else (!x4)) == false) then m_kind_Same a_p1 a_a else some (false)).bind fun x6 => (bif (bif (bif (x2 != x3) then true else (!x4)) then true else (x5 != x6)) then (some false) else ((m_kind_Takes a_a).bind fun x7 => ((loopO (S := Int) (X := (Unit ⊕ Bool)) (m_locksteplaw03_KindSame_L1 x7) (0 : Int)).bind (fun x12 => (match x12 with | (.inl _) => ((m_kind_May a_a).bind fun x14 => ((bif ((bif (!x14) then (((x7.length : Int) : Int) == (0 : Int)) else false) == false) then m_kind_May a_a else some (false)).bind fun x15 => (some (bif (bif (!x14) then (((x7.length : Int) : Int) == (0 : Int)) else false) then true else (bif x15 then (((x7.length : Int) : Int) == (a_a.Args.length : Int)) else false))))) | (.inr r16) => (some r16))))))))))))))
theorem ok_locksteplaw03_KindSame (a_a : TOp) (a_p1 : TOp) (r : Bool) (h : m_locksteplaw03_KindSame a_a a_p1 = some r) : Spec Try.prog 4 [(.agg (eTOp a_a)), (.agg (eTOp a_p1))] [] (.bool r) [] := by
  refine spec_of_awp (fn := Try.f4) Try.func4 rfl rfl (by kernel_rfl) (fun Γ hn hΓ => ?_)
  have hn : Γ.n = 81 := hn
  unfold m_locksteplaw03_KindSame at h
  refine awp_seq ?_
  refine awp_region (rs := []) (cs := []) (live := [2, 3]) (names := [2, 3]) (st' := (⟨[(2, (.ptr 2 0)), (3, (.ptr 3 0))], [(2, .row [(.int .i64 a_a.Kind), (.int .i64 a_a.Bits), (.int .i64 a_a.Lanes), (.int .i64 a_a.Dst), (AV.list 1 eI64 (0 : Int) a_a.Args .none), (.int .u64 a_a.Imm)]), (3, .row [(.int .i64 a_p1.Kind), (.int .i64 a_p1.Bits), (.int .i64 a_p1.Lanes), (.int .i64 a_p1.Dst), (AV.list 1 eI64 (0 : Int) a_p1.Args .none), (.int .u64 a_p1.Imm)])]⟩ : St)) (obs := []) hn mix (no_hand hΓ) (by kernel_rfl) trivial ?_
  refine then_normal ?_
  refine awp_seq ?_
  refine awp_seq ?_
  obtain ⟨x1, hx1, h⟩ := bind_some h
  refine awp_region (rs := [⟨[], [], (.bool x1), []⟩]) (cs := []) (live := [2, 3, 8]) (names := [2, 3]) (st' := (⟨[(2, (.ptr 2 0)), (3, (.ptr 3 0)), (8, (.bool (!x1)))], [(2, .row [(.int .i64 a_a.Kind), (.int .i64 a_a.Bits), (.int .i64 a_a.Lanes), (.int .i64 a_a.Dst), (AV.list 1 eI64 (0 : Int) a_a.Args .none), (.int .u64 a_a.Imm)]), (3, .row [(.int .i64 a_p1.Kind), (.int .i64 a_p1.Bits), (.int .i64 a_p1.Lanes), (.int .i64 a_p1.Dst), (AV.list 1 eI64 (0 : Int) a_p1.Args .none), (.int .u64 a_p1.Imm)])]⟩ : St)) (obs := [(Spec Try.prog 9 [] [] (.bool x1) [])]) hn mix (no_hand hΓ) (by kernel_rfl) ⟨(ok_locksteplaw03_awake  x1 hx1), trivial⟩ ?_
  refine then_normal ?_
  refine awp_cond (!x1) (by kernel_rfl) (fun hb => ?_) (fun hb => ?_)
  · replace h := cond_t hb h
    clear hb
    refine awp_seq ?_
    refine awp_region (rs := []) (cs := []) (live := [4]) (names := []) (st' := (⟨[(4, (.bool false))], []⟩ : St)) (obs := []) hn mix (no_hand hΓ) (by kernel_rfl) trivial ?_
    refine then_normal ?_
    refine awp_ret ?_
    refine then_ret ?_
    obtain rfl := Option.some.inj h
    exact ⟨.inl rfl, [], by kernel_rfl⟩
  · replace h := cond_f hb h
    clear hb
    refine awp_skip ?_
    refine then_normal ?_
    refine awp_seq ?_
    refine awp_seq ?_
    refine awp_region (rs := []) (cs := []) (live := [2, 3, 18]) (names := [2, 3]) (st' := (⟨[(2, (.ptr 2 0)), (3, (.ptr 3 0)), (18, (.bool (bif (decide (((100 : Int) : Int) < (a_a.Args.length : Int))) then true else (decide (((100 : Int) : Int) < (a_p1.Args.length : Int))))))], [(2, .row [(.int .i64 a_a.Kind), (.int .i64 a_a.Bits), (.int .i64 a_a.Lanes), (.int .i64 a_a.Dst), (AV.list 1 eI64 (0 : Int) a_a.Args .none), (.int .u64 a_a.Imm)]), (3, .row [(.int .i64 a_p1.Kind), (.int .i64 a_p1.Bits), (.int .i64 a_p1.Lanes), (.int .i64 a_p1.Dst), (AV.list 1 eI64 (0 : Int) a_p1.Args .none), (.int .u64 a_p1.Imm)])]⟩ : St)) (obs := [(4 < List.length (α := AV) [(.int .i64 a_a.Kind), (.int .i64 a_a.Bits), (.int .i64 a_a.Lanes), (.int .i64 a_a.Dst), (AV.list 1 eI64 (0 : Int) a_a.Args .none), (.int .u64 a_a.Imm)]), (((decide (((100 : Int) : Int) < (a_a.Args.length : Int))) == false) = true → ((decide (((100 : Int) : Int) < (a_a.Args.length : Int))) == false) = true), (((decide (((100 : Int) : Int) < (a_a.Args.length : Int))) == false) = true → (4 < List.length (α := AV) [(.int .i64 a_p1.Kind), (.int .i64 a_p1.Bits), (.int .i64 a_p1.Lanes), (.int .i64 a_p1.Dst), (AV.list 1 eI64 (0 : Int) a_p1.Args .none), (.int .u64 a_p1.Imm)])), (((decide (((100 : Int) : Int) < (a_a.Args.length : Int))) == false) = true → ((decide (((100 : Int) : Int) < (a_a.Args.length : Int))) == false) = true), (((decide (((100 : Int) : Int) < (a_a.Args.length : Int))) == false) = true → ((decide (((100 : Int) : Int) < (a_a.Args.length : Int))) == false) = true), ((decide (((100 : Int) : Int) < (a_a.Args.length : Int))) = false → ((decide (((100 : Int) : Int) < (a_a.Args.length : Int))) == false) = true)]) hn mix (no_hand hΓ) (by kernel_rfl) ⟨(Nat.le_of_ble_eq_true rfl), (fun hg => hg), (fun hg => (Nat.le_of_ble_eq_true rfl)), (fun hg => hg), (fun hg => hg), (fun hp => by rw [hp]; rfl), trivial⟩ ?_
    refine then_normal ?_
    refine awp_cond (bif (decide (((100 : Int) : Int) < (a_a.Args.length : Int))) then true else (decide (((100 : Int) : Int) < (a_p1.Args.length : Int)))) (by kernel_rfl) (fun hb => ?_) (fun hb => ?_)
    · replace h := cond_t hb h
      clear hb
      refine awp_seq ?_
      refine awp_region (rs := []) (cs := []) (live := [4]) (names := []) (st' := (⟨[(4, (.bool true))], []⟩ : St)) (obs := []) hn mix (no_hand hΓ) (by kernel_rfl) trivial ?_
      refine then_normal ?_
      refine awp_ret ?_
      refine then_ret ?_
      obtain rfl := Option.some.inj h
      exact ⟨.inl rfl, [], by kernel_rfl⟩
    · replace h := cond_f hb h
      clear hb
      refine awp_skip ?_
      refine then_normal ?_
      refine awp_seq ?_
      refine awp_seq ?_
      obtain ⟨x2, hx2, h⟩ := bind_some h
      obtain ⟨x3, hx3, h⟩ := bind_some h
      obtain ⟨x4, hx4, h⟩ := bind_some h
      obtain ⟨x5, hx5, h⟩ := bind_some h
      obtain ⟨x6, hx6, h⟩ := bind_some h
      refine awp_region (rs := [⟨[], [], (.bool x2), []⟩, ⟨[], [], (.bool x3), []⟩, ⟨[], [], (.bool x4), []⟩, ⟨[], [], (.bool x5), []⟩, ⟨[], [], (.bool x6), []⟩]) (cs := []) (live := [2, 40]) (names := [2]) (st' := (⟨[(2, (.ptr 2 0)), (40, (.bool (bif (bif (x2 != x3) then true else (!x4)) then true else (x5 != x6))))], [(2, .row [(.int .i64 a_a.Kind), (.int .i64 a_a.Bits), (.int .i64 a_a.Lanes), (.int .i64 a_a.Dst), (AV.list 1 eI64 (0 : Int) a_a.Args .none), (.int .u64 a_a.Imm)])]⟩ : St)) (obs := [(0 + 6 ≤ List.length (α := AV) [(.int .i64 a_a.Kind), (.int .i64 a_a.Bits), (.int .i64 a_a.Lanes), (.int .i64 a_a.Dst), (AV.list 1 eI64 (0 : Int) a_a.Args .none), (.int .u64 a_a.Imm)]), (0 + 6 ≤ List.length (α := AV) [(.int .i64 a_p1.Kind), (.int .i64 a_p1.Bits), (.int .i64 a_p1.Lanes), (.int .i64 a_p1.Dst), (AV.list 1 eI64 (0 : Int) a_p1.Args .none), (.int .u64 a_p1.Imm)]), (Spec Try.prog 21 [(.agg (eTOp a_a)), (.agg (eTOp a_p1))] [] (.bool x2) []), (0 + 6 ≤ List.length (α := AV) [(.int .i64 a_a.Kind), (.int .i64 a_a.Bits), (.int .i64 a_a.Lanes), (.int .i64 a_a.Dst), (AV.list 1 eI64 (0 : Int) a_a.Args .none), (.int .u64 a_a.Imm)]), (0 + 6 ≤ List.length (α := AV) [(.int .i64 a_p1.Kind), (.int .i64 a_p1.Bits), (.int .i64 a_p1.Lanes), (.int .i64 a_p1.Dst), (AV.list 1 eI64 (0 : Int) a_p1.Args .none), (.int .u64 a_p1.Imm)]), (Spec Try.prog 22 [(.agg (eTOp a_a)), (.agg (eTOp a_p1))] [] (.bool x3) []), (((x2 != x3) == false) = true → (0 + 6 ≤ List.length (α := AV) [(.int .i64 a_a.Kind), (.int .i64 a_a.Bits), (.int .i64 a_a.Lanes), (.int .i64 a_a.Dst), (AV.list 1 eI64 (0 : Int) a_a.Args .none), (.int .u64 a_a.Imm)])), (((x2 != x3) == false) = true → (0 + 6 ≤ List.length (α := AV) [(.int .i64 a_a.Kind), (.int .i64 a_a.Bits), (.int .i64 a_a.Lanes), (.int .i64 a_a.Dst), (AV.list 1 eI64 (0 : Int) a_a.Args .none), (.int .u64 a_a.Imm)])), (((x2 != x3) == false) = true → ((x2 != x3) == false) = true), (((x2 != x3) == false) = true → ((x2 != x3) == false) = true), (((x2 != x3) == false) = true → (Spec Try.prog 21 [(.agg (eTOp a_a)), (.agg (eTOp a_a))] [] (.bool x4) [])), (((x2 != x3) == false) = true → ((x2 != x3) == false) = true), ((x2 != x3) = false → ((x2 != x3) == false) = true), (((bif (x2 != x3) then true else (!x4)) == false) = true → (0 + 6 ≤ List.length (α := AV) [(.int .i64 a_a.Kind), (.int .i64 a_a.Bits), (.int .i64 a_a.Lanes), (.int .i64 a_a.Dst), (AV.list 1 eI64 (0 : Int) a_a.Args .none), (.int .u64 a_a.Imm)])), (((bif (x2 != x3) then true else (!x4)) == false) = true → (0 + 6 ≤ List.length (α := AV) [(.int .i64 a_p1.Kind), (.int .i64 a_p1.Bits), (.int .i64 a_p1.Lanes), (.int .i64 a_p1.Dst), (AV.list 1 eI64 (0 : Int) a_p1.Args .none), (.int .u64 a_p1.Imm)])), (((bif (x2 != x3) then true else (!x4)) == false) = true → ((bif (x2 != x3) then true else (!x4)) == false) = true), (((bif (x2 != x3) then true else (!x4)) == false) = true → ((bif (x2 != x3) then true else (!x4)) == false) = true), (((bif (x2 != x3) then true else (!x4)) == false) = true → (Spec Try.prog 21 [(.agg (eTOp a_a)), (.agg (eTOp a_p1))] [] (.bool x5) [])), (((bif (x2 != x3) then true else (!x4)) == false) = true → (0 + 6 ≤ List.length (α := AV) [(.int .i64 a_p1.Kind), (.int .i64 a_p1.Bits), (.int .i64 a_p1.Lanes), (.int .i64 a_p1.Dst), (AV.list 1 eI64 (0 : Int) a_p1.Args .none), (.int .u64 a_p1.Imm)])), (((bif (x2 != x3) then true else (!x4)) == false) = true → (0 + 6 ≤ List.length (α := AV) [(.int .i64 a_a.Kind), (.int .i64 a_a.Bits), (.int .i64 a_a.Lanes), (.int .i64 a_a.Dst), (AV.list 1 eI64 (0 : Int) a_a.Args .none), (.int .u64 a_a.Imm)])), (((bif (x2 != x3) then true else (!x4)) == false) = true → ((bif (x2 != x3) then true else (!x4)) == false) = true), (((bif (x2 != x3) then true else (!x4)) == false) = true → ((bif (x2 != x3) then true else (!x4)) == false) = true), (((bif (x2 != x3) then true else (!x4)) == false) = true → (Spec Try.prog 21 [(.agg (eTOp a_p1)), (.agg (eTOp a_a))] [] (.bool x6) [])), (((bif (x2 != x3) then true else (!x4)) == false) = true → ((bif (x2 != x3) then true else (!x4)) == false) = true), (((bif (x2 != x3) then true else (!x4)) == false) = true → ((bif (x2 != x3) then true else (!x4)) == false) = true), ((bif (x2 != x3) then true else (!x4)) = false → ((bif (x2 != x3) then true else (!x4)) == false) = true)]) hn mix (no_hand hΓ) (by kernel_rfl) ⟨(Nat.le_of_ble_eq_true rfl), (Nat.le_of_ble_eq_true rfl), (ok_kind_Same a_a a_p1 x2 hx2), (Nat.le_of_ble_eq_true rfl), (Nat.le_of_ble_eq_true rfl), (ok_lockstepref03_Same a_a a_p1 x3 hx3), (fun hg => (Nat.le_of_ble_eq_true rfl)), (fun hg => (Nat.le_of_ble_eq_true rfl)), (fun hg => hg), (fun hg => hg), (fun hg => (ok_kind_Same a_a a_a x4 (cond_t hg hx4))), (fun hg => hg), (fun hp => by rw [hp]; rfl), (fun hg => (Nat.le_of_ble_eq_true rfl)), (fun hg => (Nat.le_of_ble_eq_true rfl)), (fun hg => hg), (fun hg => hg), (fun hg => (ok_kind_Same a_a a_p1 x5 (cond_t hg hx5))), (fun hg => (Nat.le_of_ble_eq_true rfl)), (fun hg => (Nat.le_of_ble_eq_true rfl)), (fun hg => hg), (fun hg => hg), (fun hg => (ok_kind_Same a_p1 a_a x6 (cond_t hg hx6))), (fun hg => hg), (fun hg => hg), (fun hp => by rw [hp]; rfl), trivial⟩ ?_
      refine then_normal ?_
      refine awp_cond (bif (bif (x2 != x3) then true else (!x4)) then true else (x5 != x6)) (by kernel_rfl) (fun hb => ?_) (fun hb => ?_)
      · replace h := cond_t hb h
        clear hb
        refine awp_seq ?_
        refine awp_region (rs := []) (cs := []) (live := [4]) (names := []) (st' := (⟨[(4, (.bool false))], []⟩ : St)) (obs := []) hn mix (no_hand hΓ) (by kernel_rfl) trivial ?_
        refine then_normal ?_
        refine awp_ret ?_
        refine then_ret ?_
        obtain rfl := Option.some.inj h
        exact ⟨.inl rfl, [], by kernel_rfl⟩
      · replace h := cond_f hb h
        clear hb
        refine awp_skip ?_
        refine then_normal ?_
        refine awp_seq ?_
        obtain ⟨x7, hx7, h⟩ := bind_some h
        refine awp_region (rs := [⟨[], [], (AV.list 2 eA2I64 ((0 : Int), (0 : Int)) x7 .none), []⟩]) (cs := []) (live := [2, 5]) (names := [2]) (st' := (⟨[(2, (.ptr 2 0)), (5, (AV.list 2 eA2I64 ((0 : Int), (0 : Int)) x7 .none))], [(2, .row [(.int .i64 a_a.Kind), (.int .i64 a_a.Bits), (.int .i64 a_a.Lanes), (.int .i64 a_a.Dst), (AV.list 1 eI64 (0 : Int) a_a.Args .none), (.int .u64 a_a.Imm)])]⟩ : St)) (obs := [(0 + 6 ≤ List.length (α := AV) [(.int .i64 a_a.Kind), (.int .i64 a_a.Bits), (.int .i64 a_a.Lanes), (.int .i64 a_a.Dst), (AV.list 1 eI64 (0 : Int) a_a.Args .none), (.int .u64 a_a.Imm)]), (Spec Try.prog 15 [(.agg (eTOp a_a))] [] (AV.list 2 eA2I64 ((0 : Int), (0 : Int)) x7 .none) [])]) hn mix (no_hand hΓ) (by kernel_rfl) ⟨(Nat.le_of_ble_eq_true rfl), (ok_kind_Takes a_a x7 hx7), trivial⟩ ?_
        refine then_normal ?_
        refine awp_seq ?_
        refine awp_seq ?_
        refine awp_region (rs := []) (cs := []) (live := [2, 5, 6]) (names := [2]) (st' := (⟨[(2, (.ptr 2 0)), (5, (AV.list 2 eA2I64 ((0 : Int), (0 : Int)) x7 .none)), (6, (.int .i64 (0 : Int)))], [(2, .row [(.int .i64 a_a.Kind), (.int .i64 a_a.Bits), (.int .i64 a_a.Lanes), (.int .i64 a_a.Dst), (AV.list 1 eI64 (0 : Int) a_a.Args .none), (.int .u64 a_a.Imm)])]⟩ : St)) (obs := []) hn mix (no_hand hΓ) (by kernel_rfl) trivial ?_
        refine then_normal ?_
        refine awp_block ?_
        refine awp_le (st' := (fun (i8 : Int) => (⟨[(2, (.ptr 2 0)), (5, (AV.list 2 eA2I64 ((0 : Int), (0 : Int)) x7 .none)), (6, (.int .i64 i8))], [(2, .row [(.int .i64 a_a.Kind), (.int .i64 a_a.Bits), (.int .i64 a_a.Lanes), (.int .i64 a_a.Dst), (AV.list 1 eI64 (0 : Int) a_a.Args .none), (.int .u64 a_a.Imm)])]⟩ : St)) (0 : Int)) (Le.refl _ _) ?_
        obtain ⟨x12, hx12, h⟩ := bind_some h
        refine awp_loop (fun (i8 : Int) => (⟨[(2, (.ptr 2 0)), (5, (AV.list 2 eA2I64 ((0 : Int), (0 : Int)) x7 .none)), (6, (.int .i64 i8))], [(2, .row [(.int .i64 a_a.Kind), (.int .i64 a_a.Bits), (.int .i64 a_a.Lanes), (.int .i64 a_a.Dst), (AV.list 1 eI64 (0 : Int) a_a.Args .none), (.int .u64 a_a.Imm)])]⟩ : St)) _ (fun (x_ : (Unit ⊕ Bool)) (e : Exit) (st : St) => match x_ with | (.inl _) => e = (.exit 0) ∧ Le Γ st (⟨[(2, (.ptr 2 0)), (5, (AV.list 2 eA2I64 ((0 : Int), (0 : Int)) x7 .none))], [(2, .row [(.int .i64 a_a.Kind), (.int .i64 a_a.Bits), (.int .i64 a_a.Lanes), (.int .i64 a_a.Dst), (AV.list 1 eI64 (0 : Int) a_a.Args .none), (.int .u64 a_a.Imm)])]⟩ : St) | (.inr r_) => e = .ret ∧ retK Try.prog Try.f4.results.toList [] (.bool r_) [] e st) ?_ hx12 ?_
        · intro i8 y h
          unfold m_locksteplaw03_KindSame_L1 at h
          refine awp_seq ?_
          refine awp_seq ?_
          refine awp_region (rs := []) (cs := []) (live := [2, 5, 6, 46]) (names := [2]) (st' := (⟨[(2, (.ptr 2 0)), (5, (AV.list 2 eA2I64 ((0 : Int), (0 : Int)) x7 .none)), (6, (.int .i64 i8)), (46, (.bool (decide ((i8 : Int) < (x7.length : Int)))))], [(2, .row [(.int .i64 a_a.Kind), (.int .i64 a_a.Bits), (.int .i64 a_a.Lanes), (.int .i64 a_a.Dst), (AV.list 1 eI64 (0 : Int) a_a.Args .none), (.int .u64 a_a.Imm)])]⟩ : St)) (obs := []) hn mix (no_hand hΓ) (by kernel_rfl) trivial ?_
          refine then_normal ?_
          refine awp_cond (decide ((i8 : Int) < (x7.length : Int))) (by kernel_rfl) (fun hb => ?_) (fun hb => ?_)
          · replace h := cond_t hb h
            clear hb
            refine awp_skip ?_
            refine then_normal ?_
            refine awp_seq ?_
            refine awp_block ?_
            refine awp_seq ?_
            obtain ⟨hc9, h⟩ := chk_some h
            obtain ⟨hc10, h⟩ := chk_some h
            obtain ⟨x11, hx11, h⟩ := bind_some h
            refine awp_region (rs := [⟨[], [], (.bool x11), []⟩]) (cs := []) (live := [2, 5, 6, 60]) (names := [2]) (st' := (⟨[(2, (.ptr 2 0)), (5, (AV.list 2 eA2I64 ((0 : Int), (0 : Int)) x7 .none)), (6, (.int .i64 i8)), (60, (.bool (!x11)))], [(2, .row [(.int .i64 a_a.Kind), (.int .i64 a_a.Bits), (.int .i64 a_a.Lanes), (.int .i64 a_a.Dst), (AV.list 1 eI64 (0 : Int) a_a.Args .none), (.int .u64 a_a.Imm)])]⟩ : St)) (obs := [(InB i8 x7.length), (InB (0 : Int) 2), (InB i8 x7.length), (InB (1 : Int) 2), (Spec Try.prog 17 [(.int .i64 (x7.getD (i8).toNat ((0 : Int), (0 : Int))).1), (.int .i64 (x7.getD (i8).toNat ((0 : Int), (0 : Int))).2)] [] (.bool x11) [])]) hn mix (no_hand hΓ) (by kernel_rfl) ⟨hc9, (by decide), hc10, (by decide), (ok_kind_Shape ((x7.getD (i8).toNat ((0 : Int), (0 : Int))).1) ((x7.getD (i8).toNat ((0 : Int), (0 : Int))).2) x11 hx11), trivial⟩ ?_
            refine then_normal ?_
            refine awp_cond (!x11) (by kernel_rfl) (fun hb => ?_) (fun hb => ?_)
            · replace h := cond_t hb h
              clear hb
              refine awp_seq ?_
              refine awp_region (rs := []) (cs := []) (live := [4]) (names := []) (st' := (⟨[(4, (.bool false))], []⟩ : St)) (obs := []) hn mix (no_hand hΓ) (by kernel_rfl) trivial ?_
              refine then_normal ?_
              refine awp_ret ?_
              refine block_ret ?_
              refine then_ret ?_
              obtain rfl := Option.some.inj h
              exact ⟨(by intro hh; cases hh), rfl, ⟨.inl rfl, [], by kernel_rfl⟩⟩
            · replace h := cond_f hb h
              clear hb
              refine awp_skip ?_
              refine block_normal ?_
              refine then_normal ?_
              refine awp_region (rs := []) (cs := []) (live := [2, 5, 6]) (names := [2]) (st' := (⟨[(2, (.ptr 2 0)), (5, (AV.list 2 eA2I64 ((0 : Int), (0 : Int)) x7 .none)), (6, (.int .i64 (w64 (i8 + (1 : Int)))))], [(2, .row [(.int .i64 a_a.Kind), (.int .i64 a_a.Bits), (.int .i64 a_a.Lanes), (.int .i64 a_a.Dst), (AV.list 1 eI64 (0 : Int) a_a.Args .none), (.int .u64 a_a.Imm)])]⟩ : St)) (obs := []) hn mix (no_hand hΓ) (by kernel_rfl) trivial ?_
              obtain rfl := Option.some.inj h
              exact ⟨rfl, Le.refl _ _⟩
          · replace h := cond_f hb h
            clear hb
            refine awp_exit ?_
            refine then_exit ?_
            obtain rfl := Option.some.inj h
            exact ⟨(by intro hh; cases hh), rfl, le_restrict_eq [2, 5] [2] (by kernel_rfl) (no_hand hΓ)⟩
        · clear hx12
          rcases x12 with _ | r16
          · rintro e st' ⟨rfl, hl13⟩
            refine block_here ?_
            refine then_normal ?_
            refine awp_le hl13 ?_
            refine awp_seq ?_
            obtain ⟨x14, hx14, h⟩ := bind_some h
            obtain ⟨x15, hx15, h⟩ := bind_some h
            refine awp_region (rs := [⟨[], [], (.bool x14), []⟩, ⟨[], [], (.bool x15), []⟩]) (cs := []) (live := [4]) (names := []) (st' := (⟨[(4, (.bool (bif (bif (!x14) then (((x7.length : Int) : Int) == (0 : Int)) else false) then true else (bif x15 then (((x7.length : Int) : Int) == (a_a.Args.length : Int)) else false))))], []⟩ : St)) (obs := [(0 + 6 ≤ List.length (α := AV) [(.int .i64 a_a.Kind), (.int .i64 a_a.Bits), (.int .i64 a_a.Lanes), (.int .i64 a_a.Dst), (AV.list 1 eI64 (0 : Int) a_a.Args .none), (.int .u64 a_a.Imm)]), (Spec Try.prog 12 [(.agg (eTOp a_a))] [] (.bool x14) []), (((!x14) == true) = true → ((!x14) == true) = true), (((!x14) == true) = true → ((!x14) == true) = true), ((!x14) = true → ((!x14) == true) = true), (((bif (!x14) then (((x7.length : Int) : Int) == (0 : Int)) else false) == false) = true → (0 + 6 ≤ List.length (α := AV) [(.int .i64 a_a.Kind), (.int .i64 a_a.Bits), (.int .i64 a_a.Lanes), (.int .i64 a_a.Dst), (AV.list 1 eI64 (0 : Int) a_a.Args .none), (.int .u64 a_a.Imm)])), (((bif (!x14) then (((x7.length : Int) : Int) == (0 : Int)) else false) == false) = true → ((bif (!x14) then (((x7.length : Int) : Int) == (0 : Int)) else false) == false) = true), (((bif (!x14) then (((x7.length : Int) : Int) == (0 : Int)) else false) == false) = true → (Spec Try.prog 12 [(.agg (eTOp a_a))] [] (.bool x15) [])), (((bif (!x14) then (((x7.length : Int) : Int) == (0 : Int)) else false) == false) = true → ((bif (!x14) then (((x7.length : Int) : Int) == (0 : Int)) else false) == false) = true), ((((bif (!x14) then (((x7.length : Int) : Int) == (0 : Int)) else false) == false) && (x15 == true)) = true → (((bif (!x14) then (((x7.length : Int) : Int) == (0 : Int)) else false) == false) && (x15 == true)) = true), ((((bif (!x14) then (((x7.length : Int) : Int) == (0 : Int)) else false) == false) && (x15 == true)) = true → (((bif (!x14) then (((x7.length : Int) : Int) == (0 : Int)) else false) == false) && (x15 == true)) = true), ((((bif (!x14) then (((x7.length : Int) : Int) == (0 : Int)) else false) == false) && (x15 == true)) = true → (4 < List.length (α := AV) [(.int .i64 a_a.Kind), (.int .i64 a_a.Bits), (.int .i64 a_a.Lanes), (.int .i64 a_a.Dst), (AV.list 1 eI64 (0 : Int) a_a.Args .none), (.int .u64 a_a.Imm)])), ((((bif (!x14) then (((x7.length : Int) : Int) == (0 : Int)) else false) == false) && (x15 == true)) = true → (((bif (!x14) then (((x7.length : Int) : Int) == (0 : Int)) else false) == false) && (x15 == true)) = true), ((((bif (!x14) then (((x7.length : Int) : Int) == (0 : Int)) else false) == false) && (x15 == true)) = true → (((bif (!x14) then (((x7.length : Int) : Int) == (0 : Int)) else false) == false) && (x15 == true)) = true), ((((bif (!x14) then (((x7.length : Int) : Int) == (0 : Int)) else false) == false) && (x15 == true)) = true → (((bif (!x14) then (((x7.length : Int) : Int) == (0 : Int)) else false) == false) && (x15 == true)) = true), (((bif (!x14) then (((x7.length : Int) : Int) == (0 : Int)) else false) == false) = true → ((bif (!x14) then (((x7.length : Int) : Int) == (0 : Int)) else false) == false) = true), (((bif (!x14) then (((x7.length : Int) : Int) == (0 : Int)) else false) == false) = true → (x15 = true → (((bif (!x14) then (((x7.length : Int) : Int) == (0 : Int)) else false) == false) && (x15 == true)) = true)), ((bif (!x14) then (((x7.length : Int) : Int) == (0 : Int)) else false) = false → ((bif (!x14) then (((x7.length : Int) : Int) == (0 : Int)) else false) == false) = true)]) hn mix (no_hand hΓ) (by kernel_rfl) ⟨(Nat.le_of_ble_eq_true rfl), (ok_kind_May a_a x14 hx14), (fun hg => hg), (fun hg => hg), (fun hp => by rw [hp]; rfl), (fun hg => (Nat.le_of_ble_eq_true rfl)), (fun hg => hg), (fun hg => (ok_kind_May a_a x15 (cond_t hg hx15))), (fun hg => hg), (fun hg => hg), (fun hg => hg), (fun hg => (Nat.le_of_ble_eq_true rfl)), (fun hg => hg), (fun hg => hg), (fun hg => hg), (fun hg => hg), (fun hg => (fun hp => by rw [hg, hp]; rfl)), (fun hp => by rw [hp]; rfl), trivial⟩ ?_
            refine then_normal ?_
            refine awp_ret ?_
            obtain rfl := Option.some.inj h
            exact ⟨.inl rfl, [], by kernel_rfl⟩
          · rintro e st' ⟨rfl, hk⟩
            refine block_ret ?_
            refine then_ret ?_
            obtain rfl := Option.some.inj h
            exact hk

noncomputable def m_locksteplaw03_KindLanes (a_o : TOp) : Option Bool :=
  ((m_locksteplaw03_awake).bind fun x1 => (bif (!x1) then (some false) else (bif (decide (((100 : Int) : Int) < (a_o.Args.length : Int))) then (some true) else ((m_kind_Shape a_o.Bits a_o.Lanes).bind fun x2 => (bif (!x2) then ((m_kind_May a_o).bind fun x3 => (some (!x3))) else ((m_kind_May a_o).bind fun x4 => (bif (bif (bif x4 then ((a_o.Kind : Int) != (21 : Int)) else false) then ((a_o.Kind : Int) != (22 : Int)) else false) then ((m_kind_May (⟨a_o.Kind, a_o.Bits, (1 : Int), a_o.Dst, a_o.Args, a_o.Imm⟩ : TOp)).bind fun x5 => ((bif (x5 == true) then m_kind_Takes (⟨a_o.Kind, a_o.Bits, (1 : Int), a_o.Dst, a_o.Args, a_o.Imm⟩ : TOp) else some ([])).bind fun x6 => ((bif (x5 == true) then m_kind_Takes a_o else some ([])).bind fun x7 => (some (bif x5 then (((x6.length : Int) : Int) == (x7.length : Int)) else false))))) else ((m_kind_May a_o).bind fun x8 => ((m_lockstepref03_May a_o).bind fun x9 => (some (x8 == x9)))))))))))
theorem ok_locksteplaw03_KindLanes (a_o : TOp) (r : Bool) (h : m_locksteplaw03_KindLanes a_o = some r) : Spec Try.prog 5 [(.agg (eTOp a_o))] [] (.bool r) [] := by
  refine spec_of_awp (fn := Try.f5) Try.func5 rfl rfl (by kernel_rfl) (fun Γ hn hΓ => ?_)
  have hn : Γ.n = 49 := hn
  unfold m_locksteplaw03_KindLanes at h
  refine awp_seq ?_
  refine awp_region (rs := []) (cs := []) (live := [1]) (names := [1]) (st' := (⟨[(1, (.ptr 1 0))], [(1, .row [(.int .i64 a_o.Kind), (.int .i64 a_o.Bits), (.int .i64 a_o.Lanes), (.int .i64 a_o.Dst), (AV.list 1 eI64 (0 : Int) a_o.Args .none), (.int .u64 a_o.Imm)])]⟩ : St)) (obs := []) hn mix (no_hand hΓ) (by kernel_rfl) trivial ?_
  refine then_normal ?_
  refine awp_seq ?_
  refine awp_seq ?_
  obtain ⟨x1, hx1, h⟩ := bind_some h
  refine awp_region (rs := [⟨[], [], (.bool x1), []⟩]) (cs := []) (live := [1, 5]) (names := [1]) (st' := (⟨[(1, (.ptr 1 0)), (5, (.bool (!x1)))], [(1, .row [(.int .i64 a_o.Kind), (.int .i64 a_o.Bits), (.int .i64 a_o.Lanes), (.int .i64 a_o.Dst), (AV.list 1 eI64 (0 : Int) a_o.Args .none), (.int .u64 a_o.Imm)])]⟩ : St)) (obs := [(Spec Try.prog 9 [] [] (.bool x1) [])]) hn mix (no_hand hΓ) (by kernel_rfl) ⟨(ok_locksteplaw03_awake  x1 hx1), trivial⟩ ?_
  refine then_normal ?_
  refine awp_cond (!x1) (by kernel_rfl) (fun hb => ?_) (fun hb => ?_)
  · replace h := cond_t hb h
    clear hb
    refine awp_seq ?_
    refine awp_region (rs := []) (cs := []) (live := [2]) (names := []) (st' := (⟨[(2, (.bool false))], []⟩ : St)) (obs := []) hn mix (no_hand hΓ) (by kernel_rfl) trivial ?_
    refine then_normal ?_
    refine awp_ret ?_
    refine then_ret ?_
    obtain rfl := Option.some.inj h
    exact ⟨.inl rfl, [], by kernel_rfl⟩
  · replace h := cond_f hb h
    clear hb
    refine awp_skip ?_
    refine then_normal ?_
    refine awp_seq ?_
    refine awp_seq ?_
    refine awp_region (rs := []) (cs := []) (live := [1, 9]) (names := [1]) (st' := (⟨[(1, (.ptr 1 0)), (9, (.bool (decide (((100 : Int) : Int) < (a_o.Args.length : Int)))))], [(1, .row [(.int .i64 a_o.Kind), (.int .i64 a_o.Bits), (.int .i64 a_o.Lanes), (.int .i64 a_o.Dst), (AV.list 1 eI64 (0 : Int) a_o.Args .none), (.int .u64 a_o.Imm)])]⟩ : St)) (obs := [(4 < List.length (α := AV) [(.int .i64 a_o.Kind), (.int .i64 a_o.Bits), (.int .i64 a_o.Lanes), (.int .i64 a_o.Dst), (AV.list 1 eI64 (0 : Int) a_o.Args .none), (.int .u64 a_o.Imm)])]) hn mix (no_hand hΓ) (by kernel_rfl) ⟨(Nat.le_of_ble_eq_true rfl), trivial⟩ ?_
    refine then_normal ?_
    refine awp_cond (decide (((100 : Int) : Int) < (a_o.Args.length : Int))) (by kernel_rfl) (fun hb => ?_) (fun hb => ?_)
    · replace h := cond_t hb h
      clear hb
      refine awp_seq ?_
      refine awp_region (rs := []) (cs := []) (live := [2]) (names := []) (st' := (⟨[(2, (.bool true))], []⟩ : St)) (obs := []) hn mix (no_hand hΓ) (by kernel_rfl) trivial ?_
      refine then_normal ?_
      refine awp_ret ?_
      refine then_ret ?_
      obtain rfl := Option.some.inj h
      exact ⟨.inl rfl, [], by kernel_rfl⟩
    · replace h := cond_f hb h
      clear hb
      refine awp_skip ?_
      refine then_normal ?_
      refine awp_seq ?_
      refine awp_seq ?_
      obtain ⟨x2, hx2, h⟩ := bind_some h
      refine awp_region (rs := [⟨[], [], (.bool x2), []⟩]) (cs := []) (live := [1, 15]) (names := [1]) (st' := (⟨[(1, (.ptr 1 0)), (15, (.bool (!x2)))], [(1, .row [(.int .i64 a_o.Kind), (.int .i64 a_o.Bits), (.int .i64 a_o.Lanes), (.int .i64 a_o.Dst), (AV.list 1 eI64 (0 : Int) a_o.Args .none), (.int .u64 a_o.Imm)])]⟩ : St)) (obs := [(1 < List.length (α := AV) [(.int .i64 a_o.Kind), (.int .i64 a_o.Bits), (.int .i64 a_o.Lanes), (.int .i64 a_o.Dst), (AV.list 1 eI64 (0 : Int) a_o.Args .none), (.int .u64 a_o.Imm)]), (2 < List.length (α := AV) [(.int .i64 a_o.Kind), (.int .i64 a_o.Bits), (.int .i64 a_o.Lanes), (.int .i64 a_o.Dst), (AV.list 1 eI64 (0 : Int) a_o.Args .none), (.int .u64 a_o.Imm)]), (Spec Try.prog 17 [(.int .i64 a_o.Bits), (.int .i64 a_o.Lanes)] [] (.bool x2) [])]) hn mix (no_hand hΓ) (by kernel_rfl) ⟨(Nat.le_of_ble_eq_true rfl), (Nat.le_of_ble_eq_true rfl), (ok_kind_Shape a_o.Bits a_o.Lanes x2 hx2), trivial⟩ ?_
      refine then_normal ?_
      refine awp_cond (!x2) (by kernel_rfl) (fun hb => ?_) (fun hb => ?_)
      · replace h := cond_t hb h
        clear hb
        refine awp_seq ?_
        obtain ⟨x3, hx3, h⟩ := bind_some h
        refine awp_region (rs := [⟨[], [], (.bool x3), []⟩]) (cs := []) (live := [2]) (names := []) (st' := (⟨[(2, (.bool (!x3)))], []⟩ : St)) (obs := [(0 + 6 ≤ List.length (α := AV) [(.int .i64 a_o.Kind), (.int .i64 a_o.Bits), (.int .i64 a_o.Lanes), (.int .i64 a_o.Dst), (AV.list 1 eI64 (0 : Int) a_o.Args .none), (.int .u64 a_o.Imm)]), (Spec Try.prog 12 [(.agg (eTOp a_o))] [] (.bool x3) [])]) hn mix (no_hand hΓ) (by kernel_rfl) ⟨(Nat.le_of_ble_eq_true rfl), (ok_kind_May a_o x3 hx3), trivial⟩ ?_
        refine then_normal ?_
        refine awp_ret ?_
        refine then_ret ?_
        obtain rfl := Option.some.inj h
        exact ⟨.inl rfl, [], by kernel_rfl⟩
      · replace h := cond_f hb h
        clear hb
        refine awp_skip ?_
        refine then_normal ?_
        refine awp_seq ?_
        refine awp_region (rs := []) (cs := []) (live := [1, 3]) (names := [1, 3]) (st' := (⟨[(1, (.ptr 1 0)), (3, (.ptr 3 0))], [(1, .row [(.int .i64 a_o.Kind), (.int .i64 a_o.Bits), (.int .i64 a_o.Lanes), (.int .i64 a_o.Dst), (AV.list 1 eI64 (0 : Int) a_o.Args .none), (.int .u64 a_o.Imm)]), (3, .row [(.int .i64 a_o.Kind), (.int .i64 a_o.Bits), (.int .i64 a_o.Lanes), (.int .i64 a_o.Dst), (AV.list 1 eI64 (0 : Int) a_o.Args .none), (.int .u64 a_o.Imm)])]⟩ : St)) (obs := [(0 + 6 ≤ List.length (α := AV) [(.int .i64 a_o.Kind), (.int .i64 a_o.Bits), (.int .i64 a_o.Lanes), (.int .i64 a_o.Dst), (AV.list 1 eI64 (0 : Int) a_o.Args .none), (.int .u64 a_o.Imm)]), (0 + List.length (α := AV) (eTOp a_o) ≤ List.length (α := AV) [(.int .i64 (0 : Int)), (.int .i64 (0 : Int)), (.int .i64 (0 : Int)), (.int .i64 (0 : Int)), (.slice 0 0 (fun _ => []) .exact), (.int .u64 (0 : Int))])]) hn mix (no_hand hΓ) (by kernel_rfl) ⟨(Nat.le_of_ble_eq_true rfl), (Nat.le_of_ble_eq_true rfl), trivial⟩ ?_
        refine then_normal ?_
        refine awp_seq ?_
        refine awp_region (rs := []) (cs := []) (live := [1, 3]) (names := [1, 3]) (st' := (⟨[(1, (.ptr 1 0)), (3, (.ptr 3 0))], [(1, .row [(.int .i64 a_o.Kind), (.int .i64 a_o.Bits), (.int .i64 a_o.Lanes), (.int .i64 a_o.Dst), (AV.list 1 eI64 (0 : Int) a_o.Args .none), (.int .u64 a_o.Imm)]), (3, .row [(.int .i64 a_o.Kind), (.int .i64 a_o.Bits), (.int .i64 (1 : Int)), (.int .i64 a_o.Dst), (AV.list 1 eI64 (0 : Int) a_o.Args .none), (.int .u64 a_o.Imm)])]⟩ : St)) (obs := [(2 + List.length (α := AV) [(.int .i64 (1 : Int))] ≤ List.length (α := AV) [(.int .i64 a_o.Kind), (.int .i64 a_o.Bits), (.int .i64 a_o.Lanes), (.int .i64 a_o.Dst), (AV.list 1 eI64 (0 : Int) a_o.Args .none), (.int .u64 a_o.Imm)])]) hn mix (no_hand hΓ) (by kernel_rfl) ⟨(Nat.le_of_ble_eq_true rfl), trivial⟩ ?_
        refine then_normal ?_
        refine awp_seq ?_
        refine awp_seq ?_
        obtain ⟨x4, hx4, h⟩ := bind_some h
        refine awp_region (rs := [⟨[], [], (.bool x4), []⟩]) (cs := []) (live := [1, 3, 32]) (names := [1, 3]) (st' := (⟨[(1, (.ptr 1 0)), (3, (.ptr 3 0)), (32, (.bool (bif (bif x4 then ((a_o.Kind : Int) != (21 : Int)) else false) then ((a_o.Kind : Int) != (22 : Int)) else false)))], [(1, .row [(.int .i64 a_o.Kind), (.int .i64 a_o.Bits), (.int .i64 a_o.Lanes), (.int .i64 a_o.Dst), (AV.list 1 eI64 (0 : Int) a_o.Args .none), (.int .u64 a_o.Imm)]), (3, .row [(.int .i64 a_o.Kind), (.int .i64 a_o.Bits), (.int .i64 (1 : Int)), (.int .i64 a_o.Dst), (AV.list 1 eI64 (0 : Int) a_o.Args .none), (.int .u64 a_o.Imm)])]⟩ : St)) (obs := [(0 + 6 ≤ List.length (α := AV) [(.int .i64 a_o.Kind), (.int .i64 a_o.Bits), (.int .i64 a_o.Lanes), (.int .i64 a_o.Dst), (AV.list 1 eI64 (0 : Int) a_o.Args .none), (.int .u64 a_o.Imm)]), (Spec Try.prog 12 [(.agg (eTOp a_o))] [] (.bool x4) []), ((x4 == true) = true → (x4 == true) = true), ((x4 == true) = true → (0 < List.length (α := AV) [(.int .i64 a_o.Kind), (.int .i64 a_o.Bits), (.int .i64 a_o.Lanes), (.int .i64 a_o.Dst), (AV.list 1 eI64 (0 : Int) a_o.Args .none), (.int .u64 a_o.Imm)])), ((x4 == true) = true → (x4 == true) = true), (x4 = true → (x4 == true) = true), (((bif x4 then ((a_o.Kind : Int) != (21 : Int)) else false) == true) = true → ((bif x4 then ((a_o.Kind : Int) != (21 : Int)) else false) == true) = true), (((bif x4 then ((a_o.Kind : Int) != (21 : Int)) else false) == true) = true → (0 < List.length (α := AV) [(.int .i64 a_o.Kind), (.int .i64 a_o.Bits), (.int .i64 a_o.Lanes), (.int .i64 a_o.Dst), (AV.list 1 eI64 (0 : Int) a_o.Args .none), (.int .u64 a_o.Imm)])), (((bif x4 then ((a_o.Kind : Int) != (21 : Int)) else false) == true) = true → ((bif x4 then ((a_o.Kind : Int) != (21 : Int)) else false) == true) = true), ((bif x4 then ((a_o.Kind : Int) != (21 : Int)) else false) = true → ((bif x4 then ((a_o.Kind : Int) != (21 : Int)) else false) == true) = true)]) hn mix (no_hand hΓ) (by kernel_rfl) ⟨(Nat.le_of_ble_eq_true rfl), (ok_kind_May a_o x4 hx4), (fun hg => hg), (fun hg => (Nat.le_of_ble_eq_true rfl)), (fun hg => hg), (fun hp => by rw [hp]; rfl), (fun hg => hg), (fun hg => (Nat.le_of_ble_eq_true rfl)), (fun hg => hg), (fun hp => by rw [hp]; rfl), trivial⟩ ?_
        refine then_normal ?_
        refine awp_cond (bif (bif x4 then ((a_o.Kind : Int) != (21 : Int)) else false) then ((a_o.Kind : Int) != (22 : Int)) else false) (by kernel_rfl) (fun hb => ?_) (fun hb => ?_)
        · replace h := cond_t hb h
          clear hb
          refine awp_seq ?_
          obtain ⟨x5, hx5, h⟩ := bind_some h
          obtain ⟨x6, hx6, h⟩ := bind_some h
          obtain ⟨x7, hx7, h⟩ := bind_some h
          refine awp_region (rs := [⟨[], [], (.bool x5), []⟩, ⟨[], [], (AV.list 2 eA2I64 ((0 : Int), (0 : Int)) x6 .none), []⟩, ⟨[], [], (AV.list 2 eA2I64 ((0 : Int), (0 : Int)) x7 .none), []⟩]) (cs := []) (live := [2]) (names := []) (st' := (⟨[(2, (.bool (bif x5 then (((x6.length : Int) : Int) == (x7.length : Int)) else false)))], []⟩ : St)) (obs := [(0 + 6 ≤ List.length (α := AV) [(.int .i64 a_o.Kind), (.int .i64 a_o.Bits), (.int .i64 (1 : Int)), (.int .i64 a_o.Dst), (AV.list 1 eI64 (0 : Int) a_o.Args .none), (.int .u64 a_o.Imm)]), (Spec Try.prog 12 [(.agg [(.int .i64 a_o.Kind), (.int .i64 a_o.Bits), (.int .i64 (1 : Int)), (.int .i64 a_o.Dst), (AV.list 1 eI64 (0 : Int) a_o.Args .none), (.int .u64 a_o.Imm)])] [] (.bool x5) []), ((x5 == true) = true → (0 + 6 ≤ List.length (α := AV) [(.int .i64 a_o.Kind), (.int .i64 a_o.Bits), (.int .i64 (1 : Int)), (.int .i64 a_o.Dst), (AV.list 1 eI64 (0 : Int) a_o.Args .none), (.int .u64 a_o.Imm)])), ((x5 == true) = true → (x5 == true) = true), ((x5 == true) = true → (Spec Try.prog 15 [(.agg [(.int .i64 a_o.Kind), (.int .i64 a_o.Bits), (.int .i64 (1 : Int)), (.int .i64 a_o.Dst), (AV.list 1 eI64 (0 : Int) a_o.Args .none), (.int .u64 a_o.Imm)])] [] (AV.list 2 eA2I64 ((0 : Int), (0 : Int)) x6 .none) [])), ((x5 == true) = true → (x5 == true) = true), ((x5 == true) = true → (0 + 6 ≤ List.length (α := AV) [(.int .i64 a_o.Kind), (.int .i64 a_o.Bits), (.int .i64 a_o.Lanes), (.int .i64 a_o.Dst), (AV.list 1 eI64 (0 : Int) a_o.Args .none), (.int .u64 a_o.Imm)])), ((x5 == true) = true → (x5 == true) = true), ((x5 == true) = true → (Spec Try.prog 15 [(.agg (eTOp a_o))] [] (AV.list 2 eA2I64 ((0 : Int), (0 : Int)) x7 .none) [])), ((x5 == true) = true → (x5 == true) = true), ((x5 == true) = true → (x5 == true) = true), ((x5 == true) = true → (x5 == true) = true), (x5 = true → (x5 == true) = true)]) hn mix (no_hand hΓ) (by kernel_rfl) ⟨(Nat.le_of_ble_eq_true rfl), (ok_kind_May (⟨a_o.Kind, a_o.Bits, (1 : Int), a_o.Dst, a_o.Args, a_o.Imm⟩ : TOp) x5 hx5), (fun hg => (Nat.le_of_ble_eq_true rfl)), (fun hg => hg), (fun hg => (ok_kind_Takes (⟨a_o.Kind, a_o.Bits, (1 : Int), a_o.Dst, a_o.Args, a_o.Imm⟩ : TOp) x6 (cond_t hg hx6))), (fun hg => hg), (fun hg => (Nat.le_of_ble_eq_true rfl)), (fun hg => hg), (fun hg => (ok_kind_Takes a_o x7 (cond_t hg hx7))), (fun hg => hg), (fun hg => hg), (fun hg => hg), (fun hp => by rw [hp]; rfl), trivial⟩ ?_
          refine then_normal ?_
          refine awp_ret ?_
          refine then_ret ?_
          obtain rfl := Option.some.inj h
          exact ⟨.inl rfl, [], by kernel_rfl⟩
        · replace h := cond_f hb h
          clear hb
          refine awp_skip ?_
          refine then_normal ?_
          refine awp_seq ?_
          obtain ⟨x8, hx8, h⟩ := bind_some h
          obtain ⟨x9, hx9, h⟩ := bind_some h
          refine awp_region (rs := [⟨[], [], (.bool x8), []⟩, ⟨[], [], (.bool x9), []⟩]) (cs := []) (live := [2]) (names := []) (st' := (⟨[(2, (.bool (x8 == x9)))], []⟩ : St)) (obs := [(0 + 6 ≤ List.length (α := AV) [(.int .i64 a_o.Kind), (.int .i64 a_o.Bits), (.int .i64 a_o.Lanes), (.int .i64 a_o.Dst), (AV.list 1 eI64 (0 : Int) a_o.Args .none), (.int .u64 a_o.Imm)]), (Spec Try.prog 12 [(.agg (eTOp a_o))] [] (.bool x8) []), (0 + 6 ≤ List.length (α := AV) [(.int .i64 a_o.Kind), (.int .i64 a_o.Bits), (.int .i64 a_o.Lanes), (.int .i64 a_o.Dst), (AV.list 1 eI64 (0 : Int) a_o.Args .none), (.int .u64 a_o.Imm)]), (Spec Try.prog 13 [(.agg (eTOp a_o))] [] (.bool x9) [])]) hn mix (no_hand hΓ) (by kernel_rfl) ⟨(Nat.le_of_ble_eq_true rfl), (ok_kind_May a_o x8 hx8), (Nat.le_of_ble_eq_true rfl), (ok_lockstepref03_May a_o x9 hx9), trivial⟩ ?_
          refine then_normal ?_
          refine awp_ret ?_
          obtain rfl := Option.some.inj h
          exact ⟨.inl rfl, [], by kernel_rfl⟩

noncomputable def m_locksteplaw03_KindShapes (a_bits : Int) (a_lanes : Int) : Option Bool :=
  ((m_locksteplaw03_awake).bind fun x1 => (bif (!x1) then (some false) else ((m_kind_Shape a_bits a_lanes).bind fun x2 => (bif (bif (bif x2 then (decide (((1 : Int) : Int) < a_lanes)) else false) then (bif (decide ((a_bits : Int) < (8 : Int))) then true else (decide (((128 : Int) : Int) < (w64 (a_bits * a_lanes))))) else false) then (some false) else ((bif ((bif x2 then (decide (((1 : Int) : Int) < a_lanes)) else false) == true) then m_kind_Shape a_bits (w64 (Int.tdiv a_lanes (2 : Int))) else some (false)).bind fun x3 => (bif (bif (bif x2 then (decide (((1 : Int) : Int) < a_lanes)) else false) then (!x3) else false) then (some false) else ((bif ((!x2) == false) then m_kind_Shape a_bits (1 : Int) else some (false)).bind fun x4 => ((bif (((!x2) == false) && (x4 == true)) then m_kind_Shape a_bits (0 : Int) else some (false)).bind fun x5 => ((bif (((!x2) == false) && ((bif x4 then (!x5) else false) == true)) then m_kind_Shape a_bits (3 : Int) else some (false)).bind fun x6 => ((bif (((!x2) == false) && ((bif (bif x4 then (!x5) else false) then (!x6) else false) == true)) then m_kind_Shape a_bits (32 : Int) else some (false)).bind fun x7 => (some (bif (!x2) then true else (bif (bif (bif x4 then (!x5) else false) then (!x6) else false) then (!x7) else false)))))))))))))
theorem ok_locksteplaw03_KindShapes (a_bits : Int) (a_lanes : Int) (r : Bool) (h : m_locksteplaw03_KindShapes a_bits a_lanes = some r) : Spec Try.prog 6 [(.int .i64 a_bits), (.int .i64 a_lanes)] [] (.bool r) [] := by
  refine spec_of_awp (fn := Try.f6) Try.func6 rfl rfl (by kernel_rfl) (fun Γ hn hΓ => ?_)
  have hn : Γ.n = 59 := hn
  unfold m_locksteplaw03_KindShapes at h
  refine awp_seq ?_
  refine awp_region (rs := []) (cs := []) (live := [0, 1]) (names := []) (st' := (⟨[(0, (.int .i64 a_bits)), (1, (.int .i64 a_lanes))], []⟩ : St)) (obs := []) hn mix (no_hand hΓ) (by kernel_rfl) trivial ?_
  refine then_normal ?_
  refine awp_seq ?_
  refine awp_seq ?_
  obtain ⟨x1, hx1, h⟩ := bind_some h
  refine awp_region (rs := [⟨[], [], (.bool x1), []⟩]) (cs := []) (live := [0, 1, 7]) (names := []) (st' := (⟨[(0, (.int .i64 a_bits)), (1, (.int .i64 a_lanes)), (7, (.bool (!x1)))], []⟩ : St)) (obs := [(Spec Try.prog 9 [] [] (.bool x1) [])]) hn mix (no_hand hΓ) (by kernel_rfl) ⟨(ok_locksteplaw03_awake  x1 hx1), trivial⟩ ?_
  refine then_normal ?_
  refine awp_cond (!x1) (by kernel_rfl) (fun hb => ?_) (fun hb => ?_)
  · replace h := cond_t hb h
    clear hb
    refine awp_seq ?_
    refine awp_region (rs := []) (cs := []) (live := [4]) (names := []) (st' := (⟨[(4, (.bool false))], []⟩ : St)) (obs := []) hn mix (no_hand hΓ) (by kernel_rfl) trivial ?_
    refine then_normal ?_
    refine awp_ret ?_
    refine then_ret ?_
    obtain rfl := Option.some.inj h
    exact ⟨.inl rfl, [], by kernel_rfl⟩
  · replace h := cond_f hb h
    clear hb
    refine awp_skip ?_
    refine then_normal ?_
    refine awp_seq ?_
    obtain ⟨x2, hx2, h⟩ := bind_some h
    refine awp_region (rs := [⟨[], [], (.bool x2), []⟩]) (cs := []) (live := [0, 1, 5]) (names := []) (st' := (⟨[(0, (.int .i64 a_bits)), (1, (.int .i64 a_lanes)), (5, (.bool x2))], []⟩ : St)) (obs := [(Spec Try.prog 17 [(.int .i64 a_bits), (.int .i64 a_lanes)] [] (.bool x2) [])]) hn mix (no_hand hΓ) (by kernel_rfl) ⟨(ok_kind_Shape a_bits a_lanes x2 hx2), trivial⟩ ?_
    refine then_normal ?_
    refine awp_seq ?_
    refine awp_seq ?_
    refine awp_region (rs := []) (cs := []) (live := [0, 1, 5, 25]) (names := []) (st' := (⟨[(0, (.int .i64 a_bits)), (1, (.int .i64 a_lanes)), (5, (.bool x2)), (25, (.bool (bif (bif x2 then (decide (((1 : Int) : Int) < a_lanes)) else false) then (bif (decide ((a_bits : Int) < (8 : Int))) then true else (decide (((128 : Int) : Int) < (w64 (a_bits * a_lanes))))) else false)))], []⟩ : St)) (obs := [((x2 == true) = true → (x2 == true) = true), (x2 = true → (x2 == true) = true), (((bif x2 then (decide (((1 : Int) : Int) < a_lanes)) else false) == true) = true → ((bif x2 then (decide (((1 : Int) : Int) < a_lanes)) else false) == true) = true), (((bif x2 then (decide (((1 : Int) : Int) < a_lanes)) else false) == true) = true → ((bif x2 then (decide (((1 : Int) : Int) < a_lanes)) else false) == true) = true), ((((bif x2 then (decide (((1 : Int) : Int) < a_lanes)) else false) == true) && ((decide ((a_bits : Int) < (8 : Int))) == false)) = true → (((bif x2 then (decide (((1 : Int) : Int) < a_lanes)) else false) == true) && ((decide ((a_bits : Int) < (8 : Int))) == false)) = true), ((((bif x2 then (decide (((1 : Int) : Int) < a_lanes)) else false) == true) && ((decide ((a_bits : Int) < (8 : Int))) == false)) = true → (((bif x2 then (decide (((1 : Int) : Int) < a_lanes)) else false) == true) && ((decide ((a_bits : Int) < (8 : Int))) == false)) = true), ((((bif x2 then (decide (((1 : Int) : Int) < a_lanes)) else false) == true) && ((decide ((a_bits : Int) < (8 : Int))) == false)) = true → (((bif x2 then (decide (((1 : Int) : Int) < a_lanes)) else false) == true) && ((decide ((a_bits : Int) < (8 : Int))) == false)) = true), (((bif x2 then (decide (((1 : Int) : Int) < a_lanes)) else false) == true) = true → ((bif x2 then (decide (((1 : Int) : Int) < a_lanes)) else false) == true) = true), (((bif x2 then (decide (((1 : Int) : Int) < a_lanes)) else false) == true) = true → ((decide ((a_bits : Int) < (8 : Int))) = false → (((bif x2 then (decide (((1 : Int) : Int) < a_lanes)) else false) == true) && ((decide ((a_bits : Int) < (8 : Int))) == false)) = true)), ((bif x2 then (decide (((1 : Int) : Int) < a_lanes)) else false) = true → ((bif x2 then (decide (((1 : Int) : Int) < a_lanes)) else false) == true) = true)]) hn mix (no_hand hΓ) (by kernel_rfl) ⟨(fun hg => hg), (fun hp => by rw [hp]; rfl), (fun hg => hg), (fun hg => hg), (fun hg => hg), (fun hg => hg), (fun hg => hg), (fun hg => hg), (fun hg => (fun hp => by rw [hg, hp]; rfl)), (fun hp => by rw [hp]; rfl), trivial⟩ ?_
    refine then_normal ?_
    refine awp_cond (bif (bif x2 then (decide (((1 : Int) : Int) < a_lanes)) else false) then (bif (decide ((a_bits : Int) < (8 : Int))) then true else (decide (((128 : Int) : Int) < (w64 (a_bits * a_lanes))))) else false) (by kernel_rfl) (fun hb => ?_) (fun hb => ?_)
    · replace h := cond_t hb h
      clear hb
      refine awp_seq ?_
      refine awp_region (rs := []) (cs := []) (live := [4]) (names := []) (st' := (⟨[(4, (.bool false))], []⟩ : St)) (obs := []) hn mix (no_hand hΓ) (by kernel_rfl) trivial ?_
      refine then_normal ?_
      refine awp_ret ?_
      refine then_ret ?_
      obtain rfl := Option.some.inj h
      exact ⟨.inl rfl, [], by kernel_rfl⟩
    · replace h := cond_f hb h
      clear hb
      refine awp_skip ?_
      refine then_normal ?_
      refine awp_seq ?_
      refine awp_seq ?_
      obtain ⟨x3, hx3, h⟩ := bind_some h
      refine awp_region (rs := [⟨[], [], (.bool x3), []⟩]) (cs := []) (live := [0, 5, 37]) (names := []) (st' := (⟨[(0, (.int .i64 a_bits)), (5, (.bool x2)), (37, (.bool (bif (bif x2 then (decide (((1 : Int) : Int) < a_lanes)) else false) then (!x3) else false)))], []⟩ : St)) (obs := [((x2 == true) = true → (x2 == true) = true), (x2 = true → (x2 == true) = true), (((bif x2 then (decide (((1 : Int) : Int) < a_lanes)) else false) == true) = true → ((bif x2 then (decide (((1 : Int) : Int) < a_lanes)) else false) == true) = true), (((bif x2 then (decide (((1 : Int) : Int) < a_lanes)) else false) == true) = true → ((2 : Int) ≠ 0)), (((bif x2 then (decide (((1 : Int) : Int) < a_lanes)) else false) == true) = true → ((bif x2 then (decide (((1 : Int) : Int) < a_lanes)) else false) == true) = true), (((bif x2 then (decide (((1 : Int) : Int) < a_lanes)) else false) == true) = true → ((bif x2 then (decide (((1 : Int) : Int) < a_lanes)) else false) == true) = true), (((bif x2 then (decide (((1 : Int) : Int) < a_lanes)) else false) == true) = true → (Spec Try.prog 17 [(.int .i64 a_bits), (.int .i64 (w64 (Int.tdiv a_lanes (2 : Int))))] [] (.bool x3) [])), (((bif x2 then (decide (((1 : Int) : Int) < a_lanes)) else false) == true) = true → ((bif x2 then (decide (((1 : Int) : Int) < a_lanes)) else false) == true) = true), ((bif x2 then (decide (((1 : Int) : Int) < a_lanes)) else false) = true → ((bif x2 then (decide (((1 : Int) : Int) < a_lanes)) else false) == true) = true)]) hn mix (no_hand hΓ) (by kernel_rfl) ⟨(fun hg => hg), (fun hp => by rw [hp]; rfl), (fun hg => hg), (fun hg => (by decide)), (fun hg => hg), (fun hg => hg), (fun hg => (ok_kind_Shape a_bits (w64 (Int.tdiv a_lanes (2 : Int))) x3 (cond_t hg hx3))), (fun hg => hg), (fun hp => by rw [hp]; rfl), trivial⟩ ?_
      refine then_normal ?_
      refine awp_cond (bif (bif x2 then (decide (((1 : Int) : Int) < a_lanes)) else false) then (!x3) else false) (by kernel_rfl) (fun hb => ?_) (fun hb => ?_)
      · replace h := cond_t hb h
        clear hb
        refine awp_seq ?_
        refine awp_region (rs := []) (cs := []) (live := [4]) (names := []) (st' := (⟨[(4, (.bool false))], []⟩ : St)) (obs := []) hn mix (no_hand hΓ) (by kernel_rfl) trivial ?_
        refine then_normal ?_
        refine awp_ret ?_
        refine then_ret ?_
        obtain rfl := Option.some.inj h
        exact ⟨.inl rfl, [], by kernel_rfl⟩
      · replace h := cond_f hb h
        clear hb
        refine awp_skip ?_
        refine then_normal ?_
        refine awp_seq ?_
        obtain ⟨x4, hx4, h⟩ := bind_some h
        obtain ⟨x5, hx5, h⟩ := bind_some h
        obtain ⟨x6, hx6, h⟩ := bind_some h
        obtain ⟨x7, hx7, h⟩ := bind_some h
        refine awp_region (rs := [⟨[], [], (.bool x4), []⟩, ⟨[], [], (.bool x5), []⟩, ⟨[], [], (.bool x6), []⟩, ⟨[], [], (.bool x7), []⟩]) (cs := []) (live := [4]) (names := []) (st' := (⟨[(4, (.bool (bif (!x2) then true else (bif (bif (bif x4 then (!x5) else false) then (!x6) else false) then (!x7) else false))))], []⟩ : St)) (obs := [(((!x2) == false) = true → ((!x2) == false) = true), (((!x2) == false) = true → (Spec Try.prog 17 [(.int .i64 a_bits), (.int .i64 (1 : Int))] [] (.bool x4) [])), (((!x2) == false) = true → ((!x2) == false) = true), ((((!x2) == false) && (x4 == true)) = true → (((!x2) == false) && (x4 == true)) = true), ((((!x2) == false) && (x4 == true)) = true → (Spec Try.prog 17 [(.int .i64 a_bits), (.int .i64 (0 : Int))] [] (.bool x5) [])), ((((!x2) == false) && (x4 == true)) = true → (((!x2) == false) && (x4 == true)) = true), (((!x2) == false) = true → ((!x2) == false) = true), (((!x2) == false) = true → (x4 = true → (((!x2) == false) && (x4 == true)) = true)), (((!x2) == false) = true → ((!x2) == false) = true), ((((!x2) == false) && ((bif x4 then (!x5) else false) == true)) = true → (((!x2) == false) && ((bif x4 then (!x5) else false) == true)) = true), ((((!x2) == false) && ((bif x4 then (!x5) else false) == true)) = true → (Spec Try.prog 17 [(.int .i64 a_bits), (.int .i64 (3 : Int))] [] (.bool x6) [])), ((((!x2) == false) && ((bif x4 then (!x5) else false) == true)) = true → (((!x2) == false) && ((bif x4 then (!x5) else false) == true)) = true), (((!x2) == false) = true → ((!x2) == false) = true), (((!x2) == false) = true → ((bif x4 then (!x5) else false) = true → (((!x2) == false) && ((bif x4 then (!x5) else false) == true)) = true)), (((!x2) == false) = true → ((!x2) == false) = true), ((((!x2) == false) && ((bif (bif x4 then (!x5) else false) then (!x6) else false) == true)) = true → (((!x2) == false) && ((bif (bif x4 then (!x5) else false) then (!x6) else false) == true)) = true), ((((!x2) == false) && ((bif (bif x4 then (!x5) else false) then (!x6) else false) == true)) = true → (Spec Try.prog 17 [(.int .i64 a_bits), (.int .i64 (32 : Int))] [] (.bool x7) [])), ((((!x2) == false) && ((bif (bif x4 then (!x5) else false) then (!x6) else false) == true)) = true → (((!x2) == false) && ((bif (bif x4 then (!x5) else false) then (!x6) else false) == true)) = true), (((!x2) == false) = true → ((!x2) == false) = true), (((!x2) == false) = true → ((bif (bif x4 then (!x5) else false) then (!x6) else false) = true → (((!x2) == false) && ((bif (bif x4 then (!x5) else false) then (!x6) else false) == true)) = true)), ((!x2) = false → ((!x2) == false) = true)]) hn mix (no_hand hΓ) (by kernel_rfl) ⟨(fun hg => hg), (fun hg => (ok_kind_Shape a_bits (1 : Int) x4 (cond_t hg hx4))), (fun hg => hg), (fun hg => hg), (fun hg => (ok_kind_Shape a_bits (0 : Int) x5 (cond_t hg hx5))), (fun hg => hg), (fun hg => hg), (fun hg => (fun hp => by rw [hg, hp]; rfl)), (fun hg => hg), (fun hg => hg), (fun hg => (ok_kind_Shape a_bits (3 : Int) x6 (cond_t hg hx6))), (fun hg => hg), (fun hg => hg), (fun hg => (fun hp => by rw [hg, hp]; rfl)), (fun hg => hg), (fun hg => hg), (fun hg => (ok_kind_Shape a_bits (32 : Int) x7 (cond_t hg hx7))), (fun hg => hg), (fun hg => hg), (fun hg => (fun hp => by rw [hg, hp]; rfl)), (fun hp => by rw [hp]; rfl), trivial⟩ ?_
        refine then_normal ?_
        refine awp_ret ?_
        obtain rfl := Option.some.inj h
        exact ⟨.inl rfl, [], by kernel_rfl⟩
end Go.Proofs.Ytkbbdfkpclbdhaa
