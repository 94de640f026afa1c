/-
  What the functions compute, and that they do (part 2 of 2).
-/
import Derived.Test.YtcpopeamoipjlaaGena
namespace Go.Proofs.Ytcpopeamoipjlaa
open Go Go.RowKit
set_option linter.unusedVariables false
set_option maxRecDepth 100000
set_option maxHeartbeats 2000000
noncomputable def m_lockstepref02_Ints_L1 (a_a : List (Int)) (a_b : List (Int)) : Int → Option (LR Int (Unit ⊕ Bool)) :=
  fun (i1 : Int) => (bif (decide ((i1 : Int) < (a_a.length : Int))) then (chk (InB i1 a_a.length) (chk (InB i1 a_b.length) (bif (((a_a.getD (i1).toNat (0 : Int)) : Int) != (a_b.getD (i1).toNat (0 : Int))) then (some (.done (.inr false))) else (some (.next (w64 (i1 + (1 : Int)))))))) else (some (.done (.inl ()))))
noncomputable def Q181 (a_a : List (Int)) : AV := (AV.list 1 eI64 (0 : Int) a_a .none)
noncomputable def Q182 (a_b : List (Int)) : AV := (AV.list 1 eI64 (0 : Int) a_b .none)
noncomputable def m_lockstepref02_Ints (a_a : List (Int)) (a_b : List (Int)) : Option Bool :=
  (bif (((a_a.length : Int) : Int) != (a_b.length : Int)) then (some false) else ((loopO (S := Int) (X := (Unit ⊕ Bool)) (m_lockstepref02_Ints_L1 a_a a_b) (0 : Int)).bind (fun x4 => (match x4 with | (.inl _) => (some true) | (.inr r6) => (some r6)))))
theorem ok_lockstepref02_Ints (a_a : List (Int)) (a_b : List (Int)) (r : Bool) (h : m_lockstepref02_Ints a_a a_b = some r) : Spec Try.prog 19 [(AV.list 1 eI64 (0 : Int) a_a .none), (AV.list 1 eI64 (0 : Int) a_b .none)] [] (.bool r) [] := by
  refine spec_of_awp (fn := Try.f19) Try.func19 rfl rfl (by kernel_rfl) (fun Γ hn hΓ => ?_)
  have hn : Γ.n = 26 := hn
  unfold m_lockstepref02_Ints at h
  refine rgs0 (⟨[(0, (Q181 a_a)), (1, (Q182 a_b))], [], []⟩ : St) hn mix (no_hand hΓ) (by kernel_rfl) ?_
  refine awp_seq ?_
  refine rgs0 (⟨[(0, (Q181 a_a)), (1, (Q182 a_b)), (10, (.bool (((a_a.length : Int) : Int) != (a_b.length : Int))))], [], []⟩ : St) hn mix (no_hand hΓ) (by kernel_rfl) ?_
  refine awp_cond (((a_a.length : Int) : Int) != (a_b.length : Int)) (by kernel_rfl) (fun hb => ?_) (fun hb => ?_)
  · replace h := cond_t hb h
    clear hb
    refine rgs0 (⟨[(4, (.bool false))], [], []⟩ : St) hn mix (no_hand hΓ) (by kernel_rfl) ?_
    refine awp_ret ?_
    refine then_ret ?_
    obtain rfl := Option.some.inj h
    exact ⟨.inl rfl, [], by kernel_rfl⟩
  · replace h := cond_f hb h
    clear hb
    refine awp_skip ?_
    refine then_normal ?_
    refine awp_seq ?_
    refine rgs0 (⟨[(0, (Q181 a_a)), (1, (Q182 a_b)), (5, (.int .i64 (0 : Int)))], [], []⟩ : St) hn mix (no_hand hΓ) (by kernel_rfl) ?_
    refine awp_block ?_
    refine awp_le (st' := (fun (i1 : Int) => (⟨[(0, (Q181 a_a)), (1, (Q182 a_b)), (5, (.int .i64 i1))], [], []⟩ : St)) (0 : Int)) (Le.refl _ _) ?_
    obtain ⟨x4, hx4, h⟩ := bind_some h
    refine awp_loop (fun (i1 : Int) => (⟨[(0, (Q181 a_a)), (1, (Q182 a_b)), (5, (.int .i64 i1))], [], []⟩ : St)) _ (fun (x_ : (Unit ⊕ Bool)) (e : Exit) (st : St) => match x_ with | (.inl _) => e = (.exit 0) ∧ Le Γ st (⟨[], [], []⟩ : St) | (.inr r_) => e = .ret ∧ retK Try.prog Try.f19.results.toList [] (.bool r_) [] e st) ?_ hx4 ?_
    · intro i1 y h
      unfold m_lockstepref02_Ints_L1 at h
      refine awp_seq ?_
      refine rgs0 (⟨[(0, (Q181 a_a)), (1, (Q182 a_b)), (5, (.int .i64 i1)), (14, (.bool (decide ((i1 : Int) < (a_a.length : Int)))))], [], []⟩ : St) hn mix (no_hand hΓ) (by kernel_rfl) ?_
      refine awp_cond (decide ((i1 : Int) < (a_a.length : Int))) (by kernel_rfl) (fun hb => ?_) (fun hb => ?_)
      · replace h := cond_t hb h
        clear hb
        refine awp_skip ?_
        refine then_normal ?_
        refine awp_seq ?_
        refine awp_block ?_
        obtain ⟨hc2, h⟩ := chk_some h
        obtain ⟨hc3, h⟩ := chk_some h
        refine rgs [] [] (⟨[(0, (Q181 a_a)), (1, (Q182 a_b)), (5, (.int .i64 i1)), (25, (.bool (((a_a.getD (i1).toNat (0 : Int)) : Int) != (a_b.getD (i1).toNat (0 : Int)))))], [], []⟩ : St) [(InB i1 a_a.length), (InB i1 a_b.length)] hn mix (no_hand hΓ) (by kernel_rfl) ⟨hc2, hc3, trivial⟩ ?_
        refine awp_cond (((a_a.getD (i1).toNat (0 : Int)) : Int) != (a_b.getD (i1).toNat (0 : Int))) (by kernel_rfl) (fun hb => ?_) (fun hb => ?_)
        · replace h := cond_t hb h
          clear hb
          refine rgs0 (⟨[(4, (.bool false))], [], []⟩ : St) hn mix (no_hand hΓ) (by kernel_rfl) ?_
          refine awp_ret ?_
          refine block_ret ?_
          refine then_ret ?_
          obtain rfl := Option.some.inj h
          exact ⟨(by intro hh; cases hh), rfl, ⟨.inl rfl, [], by kernel_rfl⟩⟩
        · replace h := cond_f hb h
          clear hb
          refine awp_skip ?_
          refine block_normal ?_
          refine then_normal ?_
          refine rg0 (⟨[(0, (Q181 a_a)), (1, (Q182 a_b)), (5, (.int .i64 (w64 (i1 + (1 : Int)))))], [], []⟩ : St) hn mix (no_hand hΓ) (by kernel_rfl) ?_
          obtain rfl := Option.some.inj h
          exact ⟨rfl, Le.refl _ _⟩
      · replace h := cond_f hb h
        clear hb
        refine awp_exit ?_
        refine then_exit ?_
        obtain rfl := Option.some.inj h
        exact ⟨(by intro hh; cases hh), rfl, le_restrict_eq [] [] (by kernel_rfl) (no_hand hΓ)⟩
    · clear hx4
      rcases x4 with _ | r6
      · rintro e st' ⟨rfl, hl5⟩
        refine block_here ?_
        refine then_normal ?_
        refine awp_le hl5 ?_
        refine rgs0 (⟨[(4, (.bool true))], [], []⟩ : St) hn mix (no_hand hΓ) (by kernel_rfl) ?_
        refine awp_ret ?_
        obtain rfl := Option.some.inj h
        exact ⟨.inl rfl, [], by kernel_rfl⟩
      · rintro e st' ⟨rfl, hk⟩
        refine block_ret ?_
        refine then_ret ?_
        obtain rfl := Option.some.inj h
        exact hk

noncomputable def m_lockstepref06_Same_L1 (a_a : TGraph) (a_b : TGraph) : Int → Option (LR Int (Unit ⊕ Bool)) :=
  fun (i1 : Int) => (bif (decide ((i1 : Int) < (a_a.Succ.length : Int))) then (chk (InB i1 a_a.Succ.length) (chk (InB i1 a_b.Succ.length) ((m_lockstepref02_Ints (a_a.Succ.getD (i1).toNat []) (a_b.Succ.getD (i1).toNat [])).bind fun x4 => (bif (!x4) then (some (.done (.inr false))) else (some (.next (w64 (i1 + (1 : Int))))))))) else (some (.done (.inl ()))))
noncomputable def m_lockstepref06_Same_L2 (a_a : TGraph) (a_b : TGraph) : Int → Option (LR Int (Unit ⊕ Bool)) :=
  fun (i7 : Int) => (bif (decide ((i7 : Int) < (a_a.Pred.length : Int))) then (chk (InB i7 a_a.Pred.length) (chk (InB i7 a_b.Pred.length) ((m_lockstepref02_Ints (a_a.Pred.getD (i7).toNat []) (a_b.Pred.getD (i7).toNat [])).bind fun x10 => (bif (!x10) then (some (.done (.inr false))) else (some (.next (w64 (i7 + (1 : Int))))))))) else (some (.done (.inl ()))))
noncomputable def Q184 (a_a : TGraph) (a_b : TGraph) := (((a_a.Succ.length : Int) : Int) != (a_b.Succ.length : Int))
noncomputable def Q185 (a_a : TGraph) (a_b : TGraph) := ((Q184 a_a a_b) == false)
noncomputable def Q183 (a_a : TGraph) (a_b : TGraph) : List (Nat × Own) := [(2, .row 30 [(AV.list 1 eLI64 [] a_a.Succ .none), (AV.list 1 eLI64 [] a_a.Pred .none)]), (3, .row 30 [(AV.list 1 eLI64 [] a_b.Succ .none), (AV.list 1 eLI64 [] a_b.Pred .none)])]
noncomputable def m_lockstepref06_Same (a_a : TGraph) (a_b : TGraph) : Option Bool :=
  (bif (bif (((a_a.Succ.length : Int) : Int) != (a_b.Succ.length : Int)) then true else (((a_a.Pred.length : Int) : Int) != (a_b.Pred.length : Int))) then (some false) else ((loopO (S := Int) (X := (Unit ⊕ Bool)) (m_lockstepref06_Same_L1 a_a a_b) (0 : Int)).bind (fun x5 => (match x5 with | (.inl _) => ((loopO (S := Int) (X := (Unit ⊕ Bool)) (m_lockstepref06_Same_L2 a_a a_b) (0 : Int)).bind (fun x11 => (match x11 with | (.inl _) => (some true) | (.inr r13) => (some r13)))) | (.inr r14) => (some r14)))))
theorem ok_lockstepref06_Same (a_a : TGraph) (a_b : TGraph) (r : Bool) (h : m_lockstepref06_Same a_a a_b = some r) : Spec Try.prog 13 [(.agg (eTGraph a_a)), (.agg (eTGraph a_b))] [] (.bool r) [] := by
  refine spec_of_awp (fn := Try.f13) Try.func13 rfl rfl (by kernel_rfl) (fun Γ hn hΓ => ?_)
  have hn : Γ.n = 61 := hn
  unfold m_lockstepref06_Same at h
  refine rgs0 (⟨[(2, (.ptr 2 0)), (3, (.ptr 3 0))], (Q183 a_a a_b), []⟩ : St) hn mix (no_hand hΓ) (by kernel_rfl) ?_
  refine awp_seq ?_
  refine rgs [] [] (⟨[(2, (.ptr 2 0)), (3, (.ptr 3 0)), (22, (.bool (bif (Q184 a_a a_b) then true else (((a_a.Pred.length : Int) : Int) != (a_b.Pred.length : Int)))))], (Q183 a_a a_b), []⟩ : St) [((Q185 a_a a_b) = true → (Q185 a_a a_b) = true), ((Q185 a_a a_b) = true → (Q185 a_a a_b) = true), ((Q185 a_a a_b) = true → (Q185 a_a a_b) = true), ((Q185 a_a a_b) = true → (Q185 a_a a_b) = true), ((Q185 a_a a_b) = true → (Q185 a_a a_b) = true), ((Q185 a_a a_b) = true → (Q185 a_a a_b) = true), ((Q184 a_a a_b) = false → (Q185 a_a a_b) = true)] hn mix (no_hand hΓ) (by kernel_rfl) ⟨(fun hg => hg), (fun hg => hg), (fun hg => hg), (fun hg => hg), (fun hg => hg), (fun hg => hg), gF, trivial⟩ ?_
  refine awp_cond (bif (Q184 a_a a_b) then true else (((a_a.Pred.length : Int) : Int) != (a_b.Pred.length : Int))) (by kernel_rfl) (fun hb => ?_) (fun hb => ?_)
  · replace h := cond_t hb h
    clear hb
    refine rgs0 (⟨[(4, (.bool false))], [], []⟩ : St) hn mix (no_hand hΓ) (by kernel_rfl) ?_
    refine awp_ret ?_
    refine then_ret ?_
    obtain rfl := Option.some.inj h
    exact ⟨.inl rfl, [], by kernel_rfl⟩
  · replace h := cond_f hb h
    clear hb
    refine awp_skip ?_
    refine then_normal ?_
    refine awp_seq ?_
    refine rgs0 (⟨[(2, (.ptr 2 0)), (3, (.ptr 3 0)), (5, (.int .i64 (0 : Int)))], (Q183 a_a a_b), []⟩ : St) hn mix (no_hand hΓ) (by kernel_rfl) ?_
    refine awp_block ?_
    refine awp_le (st' := (fun (i1 : Int) => (⟨[(2, (.ptr 2 0)), (3, (.ptr 3 0)), (5, (.int .i64 i1))], (Q183 a_a a_b), []⟩ : St)) (0 : Int)) (Le.refl _ _) ?_
    obtain ⟨x5, hx5, h⟩ := bind_some h
    refine awp_loop (fun (i1 : Int) => (⟨[(2, (.ptr 2 0)), (3, (.ptr 3 0)), (5, (.int .i64 i1))], (Q183 a_a a_b), []⟩ : St)) _ (fun (x_ : (Unit ⊕ Bool)) (e : Exit) (st : St) => match x_ with | (.inl _) => e = (.exit 0) ∧ Le Γ st (⟨[(2, (.ptr 2 0)), (3, (.ptr 3 0))], (Q183 a_a a_b), []⟩ : St) | (.inr r_) => e = .ret ∧ retK Try.prog Try.f13.results.toList [] (.bool r_) [] e st) ?_ hx5 ?_
    · intro i1 y h
      unfold m_lockstepref06_Same_L1 at h
      refine awp_seq ?_
      refine rgs0 (⟨[(2, (.ptr 2 0)), (3, (.ptr 3 0)), (5, (.int .i64 i1)), (27, (.bool (decide ((i1 : Int) < (a_a.Succ.length : Int)))))], (Q183 a_a a_b), []⟩ : St) hn mix (no_hand hΓ) (by kernel_rfl) ?_
      refine awp_cond (decide ((i1 : Int) < (a_a.Succ.length : Int))) (by kernel_rfl) (fun hb => ?_) (fun hb => ?_)
      · replace h := cond_t hb h
        clear hb
        refine awp_skip ?_
        refine then_normal ?_
        refine awp_seq ?_
        refine awp_block ?_
        obtain ⟨hc2, h⟩ := chk_some h
        obtain ⟨hc3, h⟩ := chk_some h
        obtain ⟨x4, hx4, h⟩ := bind_some h
        refine rgs [⟨[], [], (.bool x4), []⟩] [] (⟨[(2, (.ptr 2 0)), (3, (.ptr 3 0)), (5, (.int .i64 i1)), (41, (.bool (!x4)))], (Q183 a_a a_b), []⟩ : St) [(InB i1 a_a.Succ.length), (InB i1 a_b.Succ.length), (Spec Try.prog 19 [(AV.list 1 eI64 (0 : Int) (a_a.Succ.getD (i1).toNat []) .none), (AV.list 1 eI64 (0 : Int) (a_b.Succ.getD (i1).toNat []) .none)] [] (.bool x4) [])] hn mix (no_hand hΓ) (by kernel_rfl) ⟨hc2, hc3, (ok_lockstepref02_Ints (a_a.Succ.getD (i1).toNat []) (a_b.Succ.getD (i1).toNat []) x4 hx4), trivial⟩ ?_
        refine awp_cond (!x4) (by kernel_rfl) (fun hb => ?_) (fun hb => ?_)
        · replace h := cond_t hb h
          clear hb
          refine rgs0 (⟨[(4, (.bool false))], [], []⟩ : St) hn mix (no_hand hΓ) (by kernel_rfl) ?_
          refine awp_ret ?_
          refine block_ret ?_
          refine then_ret ?_
          obtain rfl := Option.some.inj h
          exact ⟨(by intro hh; cases hh), rfl, ⟨.inl rfl, [], by kernel_rfl⟩⟩
        · replace h := cond_f hb h
          clear hb
          refine awp_skip ?_
          refine block_normal ?_
          refine then_normal ?_
          refine rg0 (⟨[(2, (.ptr 2 0)), (3, (.ptr 3 0)), (5, (.int .i64 (w64 (i1 + (1 : Int)))))], (Q183 a_a a_b), []⟩ : St) hn mix (no_hand hΓ) (by kernel_rfl) ?_
          obtain rfl := Option.some.inj h
          exact ⟨rfl, Le.refl _ _⟩
      · replace h := cond_f hb h
        clear hb
        refine awp_exit ?_
        refine then_exit ?_
        obtain rfl := Option.some.inj h
        exact ⟨(by intro hh; cases hh), rfl, le_restrict_eq [2, 3] [2, 3] (by kernel_rfl) (no_hand hΓ)⟩
    · clear hx5
      rcases x5 with _ | r14
      · rintro e st' ⟨rfl, hl6⟩
        refine block_here ?_
        refine then_normal ?_
        refine awp_le hl6 ?_
        refine awp_seq ?_
        refine rgs0 (⟨[(2, (.ptr 2 0)), (3, (.ptr 3 0)), (6, (.int .i64 (0 : Int)))], (Q183 a_a a_b), []⟩ : St) hn mix (no_hand hΓ) (by kernel_rfl) ?_
        refine awp_block ?_
        refine awp_le (st' := (fun (i7 : Int) => (⟨[(2, (.ptr 2 0)), (3, (.ptr 3 0)), (6, (.int .i64 i7))], (Q183 a_a a_b), []⟩ : St)) (0 : Int)) (Le.refl _ _) ?_
        obtain ⟨x11, hx11, h⟩ := bind_some h
        refine awp_loop (fun (i7 : Int) => (⟨[(2, (.ptr 2 0)), (3, (.ptr 3 0)), (6, (.int .i64 i7))], (Q183 a_a a_b), []⟩ : St)) _ (fun (x_ : (Unit ⊕ Bool)) (e : Exit) (st : St) => match x_ with | (.inl _) => e = (.exit 2) ∧ Le Γ st (⟨[], [], []⟩ : St) | (.inr r_) => e = .ret ∧ retK Try.prog Try.f13.results.toList [] (.bool r_) [] e st) ?_ hx11 ?_
        · intro i7 y h
          unfold m_lockstepref06_Same_L2 at h
          refine awp_seq ?_
          refine rgs0 (⟨[(2, (.ptr 2 0)), (3, (.ptr 3 0)), (6, (.int .i64 i7)), (46, (.bool (decide ((i7 : Int) < (a_a.Pred.length : Int)))))], (Q183 a_a a_b), []⟩ : St) hn mix (no_hand hΓ) (by kernel_rfl) ?_
          refine awp_cond (decide ((i7 : Int) < (a_a.Pred.length : Int))) (by kernel_rfl) (fun hb => ?_) (fun hb => ?_)
          · replace h := cond_t hb h
            clear hb
            refine awp_skip ?_
            refine then_normal ?_
            refine awp_seq ?_
            refine awp_block ?_
            obtain ⟨hc8, h⟩ := chk_some h
            obtain ⟨hc9, h⟩ := chk_some h
            obtain ⟨x10, hx10, h⟩ := bind_some h
            refine rgs [⟨[], [], (.bool x10), []⟩] [] (⟨[(2, (.ptr 2 0)), (3, (.ptr 3 0)), (6, (.int .i64 i7)), (60, (.bool (!x10)))], (Q183 a_a a_b), []⟩ : St) [(InB i7 a_a.Pred.length), (InB i7 a_b.Pred.length), (Spec Try.prog 19 [(AV.list 1 eI64 (0 : Int) (a_a.Pred.getD (i7).toNat []) .none), (AV.list 1 eI64 (0 : Int) (a_b.Pred.getD (i7).toNat []) .none)] [] (.bool x10) [])] hn mix (no_hand hΓ) (by kernel_rfl) ⟨hc8, hc9, (ok_lockstepref02_Ints (a_a.Pred.getD (i7).toNat []) (a_b.Pred.getD (i7).toNat []) x10 hx10), trivial⟩ ?_
            refine awp_cond (!x10) (by kernel_rfl) (fun hb => ?_) (fun hb => ?_)
            · replace h := cond_t hb h
              clear hb
              refine rgs0 (⟨[(4, (.bool false))], [], []⟩ : St) hn mix (no_hand hΓ) (by kernel_rfl) ?_
              refine awp_ret ?_
              refine block_ret ?_
              refine then_ret ?_
              obtain rfl := Option.some.inj h
              exact ⟨(by intro hh; cases hh), rfl, ⟨.inl rfl, [], by kernel_rfl⟩⟩
            · replace h := cond_f hb h
              clear hb
              refine awp_skip ?_
              refine block_normal ?_
              refine then_normal ?_
              refine rg0 (⟨[(2, (.ptr 2 0)), (3, (.ptr 3 0)), (6, (.int .i64 (w64 (i7 + (1 : Int)))))], (Q183 a_a a_b), []⟩ : St) hn mix (no_hand hΓ) (by kernel_rfl) ?_
              obtain rfl := Option.some.inj h
              exact ⟨rfl, Le.refl _ _⟩
          · replace h := cond_f hb h
            clear hb
            refine awp_exit ?_
            refine then_exit ?_
            obtain rfl := Option.some.inj h
            exact ⟨(by intro hh; cases hh), rfl, le_restrict_eq [] [] (by kernel_rfl) (no_hand hΓ)⟩
        · clear hx11
          rcases x11 with _ | r13
          · rintro e st' ⟨rfl, hl12⟩
            refine block_here ?_
            refine then_normal ?_
            refine awp_le hl12 ?_
            refine rgs0 (⟨[(4, (.bool true))], [], []⟩ : St) hn mix (no_hand hΓ) (by kernel_rfl) ?_
            refine awp_ret ?_
            obtain rfl := Option.some.inj h
            exact ⟨.inl rfl, [], by kernel_rfl⟩
          · rintro e st' ⟨rfl, hk⟩
            refine block_ret ?_
            refine then_ret ?_
            obtain rfl := Option.some.inj h
            exact hk
      · rintro e st' ⟨rfl, hk⟩
        refine block_ret ?_
        refine then_ret ?_
        obtain rfl := Option.some.inj h
        exact hk

noncomputable def Q186 (x5 : Bool) (x3 : (TGraph × Int)) (x4 : (TGraph × Int)) := ((bif x5 then ((x3.2 : Int) == x4.2) else false) == true)
noncomputable def Q187 (a_f : TFunc) : List AV := [(AV.list 1 eI64 (0 : Int) a_f.Params .none), (.int .i64 a_f.Ret), (AV.list 5 eTBlock (default : TBlock) a_f.Blocks .none)]
noncomputable def m_locksteplaw06_GraphShapes (a_f : TFunc) : Option Bool :=
  ((m_locksteplaw06_awake).bind fun x1 => (bif (!x1) then (some false) else ((m_lockstepref04_Small a_f).bind fun x2 => (bif (!x2) then (some true) else ((m_graph_Of a_f).bind fun x3 => ((m_lockstepref06_Of a_f).bind fun x4 => ((m_lockstepref06_Same x3.1 x4.1).bind fun x5 => ((bif (((bif x5 then ((x3.2 : Int) == x4.2) else false) == true) && (((x3.2 : Int) != (0 : Int)) == false)) then m_graph_May x3.1 else some false).bind fun x6 => (some (bif (bif x5 then ((x3.2 : Int) == x4.2) else false) then (bif ((x3.2 : Int) != (0 : Int)) then true else x6) else false))))))))))
theorem ok_locksteplaw06_GraphShapes (a_f : TFunc) (r : Bool) (h : m_locksteplaw06_GraphShapes a_f = some r) : Spec Try.prog 3 [(.agg (eTFunc a_f))] [] (.bool r) [] := by
  refine spec_of_awp (fn := Try.f3) Try.func3 rfl rfl (by kernel_rfl) (fun Γ hn hΓ => ?_)
  have hn : Γ.n = 38 := hn
  unfold m_locksteplaw06_GraphShapes at h
  refine rgs0 (⟨[(1, (.ptr 1 0))], [(1, .row 25 (Q187 a_f))], []⟩ : St) hn mix (no_hand hΓ) (by kernel_rfl) ?_
  refine awp_seq ?_
  obtain ⟨x1, hx1, h⟩ := bind_some h
  refine rgs [⟨[], [], (.bool x1), []⟩] [] (⟨[(1, (.ptr 1 0)), (8, (.bool (!x1)))], [(1, .row 25 (Q187 a_f))], []⟩ : St) [(Spec Try.prog 9 [] [] (.bool x1) [])] hn mix (no_hand hΓ) (by kernel_rfl) ⟨(ok_locksteplaw06_awake  x1 hx1), trivial⟩ ?_
  refine awp_cond (!x1) (by kernel_rfl) (fun hb => ?_) (fun hb => ?_)
  · replace h := cond_t hb h
    clear hb
    refine rgs0 (⟨[(2, (.bool false))], [], []⟩ : St) hn mix (no_hand hΓ) (by kernel_rfl) ?_
    refine awp_ret ?_
    refine then_ret ?_
    obtain rfl := Option.some.inj h
    exact ⟨.inl rfl, [], by kernel_rfl⟩
  · replace h := cond_f hb h
    clear hb
    refine awp_skip ?_
    refine then_normal ?_
    refine awp_seq ?_
    obtain ⟨x2, hx2, h⟩ := bind_some h
    refine rgs [⟨[], [], (.bool x2), []⟩] [] (⟨[(1, (.ptr 1 0)), (11, (.bool (!x2)))], [(1, .row 25 (Q187 a_f))], []⟩ : St) [(Spec Try.prog 10 [(.agg (eTFunc a_f))] [] (.bool x2) [])] hn mix (no_hand hΓ) (by kernel_rfl) ⟨(ok_lockstepref04_Small a_f x2 hx2), trivial⟩ ?_
    refine awp_cond (!x2) (by kernel_rfl) (fun hb => ?_) (fun hb => ?_)
    · replace h := cond_t hb h
      clear hb
      refine rgs0 (⟨[(2, (.bool true))], [], []⟩ : St) hn mix (no_hand hΓ) (by kernel_rfl) ?_
      refine awp_ret ?_
      refine then_ret ?_
      obtain rfl := Option.some.inj h
      exact ⟨.inl rfl, [], by kernel_rfl⟩
    · replace h := cond_f hb h
      clear hb
      refine awp_skip ?_
      refine then_normal ?_
      obtain ⟨x3, hx3, h⟩ := bind_some h
      refine rgs [⟨[], [], (.tuple [(.agg (eTGraph x3.1)), (.int .i64 x3.2)]), []⟩] [] (⟨[(1, (.ptr 1 0)), (3, (.ptr 3 0)), (4, (.int .i64 x3.2))], [(1, .row 25 (Q187 a_f)), (3, .row 30 [(AV.list 1 eLI64 [] x3.1.Succ .none), (AV.list 1 eLI64 [] x3.1.Pred .none)])], []⟩ : St) [(Spec Try.prog 11 [(.agg (eTFunc a_f))] [] (.tuple [(.agg (eTGraph x3.1)), (.int .i64 x3.2)]) [])] hn mix (no_hand hΓ) (by kernel_rfl) ⟨(ok_graph_Of a_f x3 hx3), trivial⟩ ?_
      obtain ⟨x4, hx4, h⟩ := bind_some h
      refine rgs [⟨[], [], (.tuple [(.agg (eTGraph x4.1)), (.int .i64 x4.2)]), []⟩] [] (⟨[(3, (.ptr 3 0)), (4, (.int .i64 x3.2)), (5, (.ptr 5 0)), (6, (.int .i64 x4.2))], [(3, .row 30 [(AV.list 1 eLI64 [] x3.1.Succ .none), (AV.list 1 eLI64 [] x3.1.Pred .none)]), (5, .row 30 [(AV.list 1 eLI64 [] x4.1.Succ .none), (AV.list 1 eLI64 [] x4.1.Pred .none)])], []⟩ : St) [(Spec Try.prog 12 [(.agg (eTFunc a_f))] [] (.tuple [(.agg (eTGraph x4.1)), (.int .i64 x4.2)]) [])] hn mix (no_hand hΓ) (by kernel_rfl) ⟨(ok_lockstepref06_Of a_f x4 hx4), trivial⟩ ?_
      obtain ⟨x5, hx5, h⟩ := bind_some h
      obtain ⟨x6, hx6, h⟩ := bind_some h
      refine rgs [⟨[], [], (.bool x5), []⟩, ⟨[], [], (.bool x6), []⟩] [] (⟨[(2, (.bool (bif (bif x5 then ((x3.2 : Int) == x4.2) else false) then (bif ((x3.2 : Int) != (0 : Int)) then true else x6) else false)))], [], []⟩ : St) [(Spec Try.prog 13 [(.agg (eTGraph x3.1)), (.agg (eTGraph x4.1))] [] (.bool x5) []), ((x5 == true) = true → (x5 == true) = true), ((x5 == true) = true → (x5 == true) = true), (x5 = true → (x5 == true) = true), ((Q186 x5 x3 x4) = true → (Q186 x5 x3 x4) = true), ((Q186 x5 x3 x4) = true → (Q186 x5 x3 x4) = true), (((Q186 x5 x3 x4) && (((x3.2 : Int) != (0 : Int)) == false)) = true → ((Q186 x5 x3 x4) && (((x3.2 : Int) != (0 : Int)) == false)) = true), (((Q186 x5 x3 x4) && (((x3.2 : Int) != (0 : Int)) == false)) = true → (Spec Try.prog 14 [(.agg (eTGraph x3.1))] [] (.bool x6) [])), ((Q186 x5 x3 x4) = true → (Q186 x5 x3 x4) = true), ((Q186 x5 x3 x4) = true → (((x3.2 : Int) != (0 : Int)) = false → ((Q186 x5 x3 x4) && (((x3.2 : Int) != (0 : Int)) == false)) = true)), ((bif x5 then ((x3.2 : Int) == x4.2) else false) = true → (Q186 x5 x3 x4) = true)] hn mix (no_hand hΓ) (by kernel_rfl) ⟨(ok_lockstepref06_Same x3.1 x4.1 x5 hx5), (fun hg => hg), (fun hg => hg), gT, (fun hg => hg), (fun hg => hg), (fun hg => hg), (fun hg => (ok_graph_May x3.1 x6 (cond_t hg hx6))), (fun hg => hg), (fun hg => (aF hg)), gT, trivial⟩ ?_
      refine awp_ret ?_
      obtain rfl := Option.some.inj h
      exact ⟨.inl rfl, [], by kernel_rfl⟩

noncomputable def m_lockstepref06_Small_L1 (a_succ : List (List (Int))) : Int → Option (LR Int (Unit ⊕ Bool)) :=
  fun (i1 : Int) => (bif (decide ((i1 : Int) < (a_succ.length : Int))) then (chk (InB i1 a_succ.length) (bif (bif (decide (((100 : Int) : Int) < ((a_succ.getD (i1).toNat []).length : Int))) then true else (decide (((100 : Int) : Int) < i1))) then (some (.done (.inr false))) else (some (.next (w64 (i1 + (1 : Int))))))) else (some (.done (.inl ()))))
noncomputable def Q189 (a_succ : List (List (Int))) : AV := (AV.list 1 eLI64 [] a_succ .none)
noncomputable def Q188 (a_succ : List (List (Int))) (i1 : Int) := (decide (((100 : Int) : Int) < ((a_succ.getD (i1).toNat []).length : Int)))
noncomputable def m_lockstepref06_Small (a_succ : List (List (Int))) : Option Bool :=
  ((loopO (S := Int) (X := (Unit ⊕ Bool)) (m_lockstepref06_Small_L1 a_succ) (0 : Int)).bind (fun x3 => (match x3 with | (.inl _) => (some true) | (.inr r5) => (some r5))))
theorem ok_lockstepref06_Small (a_succ : List (List (Int))) (r : Bool) (h : m_lockstepref06_Small a_succ = some r) : Spec Try.prog 15 [(AV.list 1 eLI64 [] a_succ .none)] [] (.bool r) [] := by
  refine spec_of_awp (fn := Try.f15) Try.func15 rfl rfl (by kernel_rfl) (fun Γ hn hΓ => ?_)
  have hn : Γ.n = 20 := hn
  unfold m_lockstepref06_Small at h
  refine rgs0 (⟨[(0, (Q189 a_succ))], [], []⟩ : St) hn mix (no_hand hΓ) (by kernel_rfl) ?_
  refine awp_seq ?_
  refine rgs0 (⟨[(0, (Q189 a_succ)), (3, (.int .i64 (0 : Int)))], [], []⟩ : St) hn mix (no_hand hΓ) (by kernel_rfl) ?_
  refine awp_block ?_
  refine awp_le (st' := (fun (i1 : Int) => (⟨[(0, (Q189 a_succ)), (3, (.int .i64 i1))], [], []⟩ : St)) (0 : Int)) (Le.refl _ _) ?_
  obtain ⟨x3, hx3, h⟩ := bind_some h
  refine awp_loop (fun (i1 : Int) => (⟨[(0, (Q189 a_succ)), (3, (.int .i64 i1))], [], []⟩ : St)) _ (fun (x_ : (Unit ⊕ Bool)) (e : Exit) (st : St) => match x_ with | (.inl _) => e = (.exit 0) ∧ Le Γ st (⟨[], [], []⟩ : St) | (.inr r_) => e = .ret ∧ retK Try.prog Try.f15.results.toList [] (.bool r_) [] e st) ?_ hx3 ?_
  · intro i1 y h
    unfold m_lockstepref06_Small_L1 at h
    refine awp_seq ?_
    refine rgs0 (⟨[(0, (Q189 a_succ)), (3, (.int .i64 i1)), (7, (.bool (decide ((i1 : Int) < (a_succ.length : Int)))))], [], []⟩ : St) hn mix (no_hand hΓ) (by kernel_rfl) ?_
    refine awp_cond (decide ((i1 : Int) < (a_succ.length : Int))) (by kernel_rfl) (fun hb => ?_) (fun hb => ?_)
    · replace h := cond_t hb h
      clear hb
      refine awp_skip ?_
      refine then_normal ?_
      refine awp_seq ?_
      refine awp_block ?_
      obtain ⟨hc2, h⟩ := chk_some h
      refine rgs [] [] (⟨[(0, (Q189 a_succ)), (3, (.int .i64 i1)), (19, (.bool (bif (Q188 a_succ i1) then true else (decide (((100 : Int) : Int) < i1)))))], [], []⟩ : St) [(InB i1 a_succ.length), (((Q188 a_succ i1) == false) = true → ((Q188 a_succ i1) == false) = true), ((Q188 a_succ i1) = false → ((Q188 a_succ i1) == false) = true)] hn mix (no_hand hΓ) (by kernel_rfl) ⟨hc2, (fun hg => hg), gF, trivial⟩ ?_
      refine awp_cond (bif (Q188 a_succ i1) then true else (decide (((100 : Int) : Int) < i1))) (by kernel_rfl) (fun hb => ?_) (fun hb => ?_)
      · replace h := cond_t hb h
        clear hb
        refine rgs0 (⟨[(2, (.bool false))], [], []⟩ : St) hn mix (no_hand hΓ) (by kernel_rfl) ?_
        refine awp_ret ?_
        refine block_ret ?_
        refine then_ret ?_
        obtain rfl := Option.some.inj h
        exact ⟨(by intro hh; cases hh), rfl, ⟨.inl rfl, [], by kernel_rfl⟩⟩
      · replace h := cond_f hb h
        clear hb
        refine awp_skip ?_
        refine block_normal ?_
        refine then_normal ?_
        refine rg0 (⟨[(0, (Q189 a_succ)), (3, (.int .i64 (w64 (i1 + (1 : Int)))))], [], []⟩ : St) hn mix (no_hand hΓ) (by kernel_rfl) ?_
        obtain rfl := Option.some.inj h
        exact ⟨rfl, Le.refl _ _⟩
    · replace h := cond_f hb h
      clear hb
      refine awp_exit ?_
      refine then_exit ?_
      obtain rfl := Option.some.inj h
      exact ⟨(by intro hh; cases hh), rfl, le_restrict_eq [] [] (by kernel_rfl) (no_hand hΓ)⟩
  · clear hx3
    rcases x3 with _ | r5
    · rintro e st' ⟨rfl, hl4⟩
      refine block_here ?_
      refine then_normal ?_
      refine awp_le hl4 ?_
      refine rgs0 (⟨[(2, (.bool true))], [], []⟩ : St) hn mix (no_hand hΓ) (by kernel_rfl) ?_
      refine awp_ret ?_
      obtain rfl := Option.some.inj h
      exact ⟨.inl rfl, [], by kernel_rfl⟩
    · rintro e st' ⟨rfl, hk⟩
      refine block_ret ?_
      refine then_ret ?_
      obtain rfl := Option.some.inj h
      exact hk

noncomputable def Q190 (x1 : (TGraph × Int)) := (((x1.2 : Int) == (0 : Int)) == true)
noncomputable def m_lockstepref06_May (a_g : TGraph) : Option Bool :=
  ((m_lockstepref06_Make a_g.Succ).bind fun x1 => ((bif (((x1.2 : Int) == (0 : Int)) == true) then m_lockstepref06_Same x1.1 a_g else some false).bind fun x2 => (some (bif ((x1.2 : Int) == (0 : Int)) then x2 else false))))
theorem ok_lockstepref06_May (a_g : TGraph) (r : Bool) (h : m_lockstepref06_May a_g = some r) : Spec Try.prog 18 [(.agg (eTGraph a_g))] [] (.bool r) [] := by
  refine spec_of_awp (fn := Try.f18) Try.func18 rfl rfl (by kernel_rfl) (fun Γ hn hΓ => ?_)
  have hn : Γ.n = 18 := hn
  unfold m_lockstepref06_May at h
  refine rgs0 (⟨[(1, (.ptr 1 0))], [(1, .row 30 [(AV.list 1 eLI64 [] a_g.Succ .none), (AV.list 1 eLI64 [] a_g.Pred .none)])], []⟩ : St) hn mix (no_hand hΓ) (by kernel_rfl) ?_
  obtain ⟨x1, hx1, h⟩ := bind_some h
  refine rgs [⟨[], [], (.tuple [(.agg (eTGraph x1.1)), (.int .i64 x1.2)]), []⟩] [] (⟨[(1, (.ptr 1 0)), (3, (.ptr 3 0)), (4, (.int .i64 x1.2))], [(1, .row 30 [(AV.list 1 eLI64 [] a_g.Succ .none), (AV.list 1 eLI64 [] a_g.Pred .none)]), (3, .row 30 [(AV.list 1 eLI64 [] x1.1.Succ .none), (AV.list 1 eLI64 [] x1.1.Pred .none)])], []⟩ : St) [(Spec Try.prog 17 [(AV.list 1 eLI64 [] a_g.Succ .none)] [] (.tuple [(.agg (eTGraph x1.1)), (.int .i64 x1.2)]) [])] hn mix (no_hand hΓ) (by kernel_rfl) ⟨(ok_lockstepref06_Make a_g.Succ x1 hx1), trivial⟩ ?_
  obtain ⟨x2, hx2, h⟩ := bind_some h
  refine rgs [⟨[], [], (.bool x2), []⟩] [] (⟨[(2, (.bool (bif ((x1.2 : Int) == (0 : Int)) then x2 else false)))], [], []⟩ : St) [((Q190 x1) = true → (Q190 x1) = true), ((Q190 x1) = true → (Q190 x1) = true), ((Q190 x1) = true → (Spec Try.prog 13 [(.agg (eTGraph x1.1)), (.agg (eTGraph a_g))] [] (.bool x2) [])), (((x1.2 : Int) == (0 : Int)) = true → (Q190 x1) = true)] hn mix (no_hand hΓ) (by kernel_rfl) ⟨(fun hg => hg), (fun hg => hg), (fun hg => (ok_lockstepref06_Same x1.1 a_g x2 (cond_t hg hx2))), gT, trivial⟩ ?_
  refine awp_ret ?_
  obtain rfl := Option.some.inj h
  exact ⟨.inl rfl, [], by kernel_rfl⟩

noncomputable def mB_lockstepref06_Walk_visit_L1 (rec_lockstepref06_Walk_visit : TGraph → Int → (List (Bool)) → (List (Int)) → Option (List (Int) × List (Bool))) (a_g : TGraph) (a_x : Int) : (Int × List (Int) × List (Bool)) → Option (LR (Int × List (Int) × List (Bool)) (List (Int) × List (Bool))) :=
  fun ((i2, l3, l4) : (Int × List (Int) × List (Bool))) => (chk (InB a_x a_g.Succ.length) (bif (decide ((i2 : Int) < ((a_g.Succ.getD (a_x).toNat []).length : Int))) then (Option.bind (α := (List (Int) × List (Bool))) (chk (InB a_x a_g.Succ.length) (chk (InB i2 (a_g.Succ.getD (a_x).toNat []).length) (chk (InB ((a_g.Succ.getD (a_x).toNat []).getD (i2).toNat (0 : Int)) l4.length) (bif (!(l4.getD (((a_g.Succ.getD (a_x).toNat []).getD (i2).toNat (0 : Int))).toNat false)) then (chk (InB a_x a_g.Succ.length) (chk (InB i2 (a_g.Succ.getD (a_x).toNat []).length) ((rec_lockstepref06_Walk_visit a_g ((a_g.Succ.getD (a_x).toNat []).getD (i2).toNat (0 : Int)) l4 l3).bind fun x15 => (chk (l4.length = x15.2.length) (some ((x15.1, x15.2))))))) else (some ((l3, l4))))))) (fun x17 => (match x17 with | (l8, l9) => (some (.next ((w64 (i2 + (1 : Int))), l8, l9)))))) else (some (.done (l3, l4)))))
noncomputable def Q196 (a_x : Int) := ([a_x] : List (Int))
noncomputable def Q194 (a_g : TGraph) (a_x : Int) (i2 : Int) := ((a_g.Succ.getD (a_x).toNat []).getD (i2).toNat (0 : Int))
noncomputable def Q197 (a_x : Int) : List (Nat × AV) := [(0, (.ptr 30000 0)), (2, (.int .i64 a_x)), (4, (.ptr 4 0))]
noncomputable def Q193 (l4 : List (Bool)) (l3 : List (Int)) : List AV := [(.vsl 35000 l4.length), (AV.list 1 eI64 (0 : Int) l3 .none)]
noncomputable def Q195 (x15 : (List (Int) × List (Bool))) : List AV := [(.vsl 35000 x15.2.length), (AV.list 1 eI64 (0 : Int) x15.1 .none)]
noncomputable def Q191 (a_g : TGraph) : List AV := [(AV.list 1 eLI64 [] a_g.Succ .none), (AV.list 1 eLI64 [] a_g.Pred .none)]
noncomputable def Q192 (a_x : Int) (i2 : Int) : List (Nat × AV) := [(0, (.ptr 30000 0)), (2, (.int .i64 a_x)), (4, (.ptr 4 0)), (6, (.int .i64 i2))]
noncomputable def Q198 (a_g : TGraph) (l4 : List (Bool)) (l3 : List (Int)) : List (Nat × Own) := [(4, .row 30 (Q191 a_g)), (30000, .row 73 (Q193 l4 l3)), (35000, .arr 1 4 l4.length (fun i => eB (l4.getD i false)))]
noncomputable def mB_lockstepref06_Walk_visit (rec_lockstepref06_Walk_visit : TGraph → Int → (List (Bool)) → (List (Int)) → Option (List (Int) × List (Bool))) (a_g : TGraph) (a_x : Int) (a_w0_0 : List (Bool)) (a_w0_1 : List (Int)) : Option (List (Int) × List (Bool)) :=
  (chk (InB a_x a_w0_0.length) ((loopO (S := (Int × List (Int) × List (Bool))) (X := (List (Int) × List (Bool))) (mB_lockstepref06_Walk_visit_L1 rec_lockstepref06_Walk_visit a_g a_x) ((0 : Int), a_w0_1, (a_w0_0.set (a_x).toNat true))).bind (fun x19 => (match x19 with | (l5, l6) => (chk (([a_x] : List (Int)).length + l5.length ≤ room) (some ((([a_x] : List (Int)) ++ l5), l6)))))))
noncomputable def mN_lockstepref06_Walk_visit : Nat → TGraph → Int → (List (Bool)) → (List (Int)) → Option (List (Int) × List (Bool))
  | 0 => fun _ => fun _ => fun _ => fun _ => none
  | n + 1 => mB_lockstepref06_Walk_visit (mN_lockstepref06_Walk_visit n)
noncomputable def m_lockstepref06_Walk_visit (a_g : TGraph) (a_x : Int) (a_w0_0 : List (Bool)) (a_w0_1 : List (Int)) : Option (List (Int) × List (Bool)) := fixO fun n => mN_lockstepref06_Walk_visit n a_g a_x a_w0_0 a_w0_1
theorem okN_lockstepref06_Walk_visit (n : Nat) : (∀ (a_g : TGraph) (a_x : Int) (a_w0_0 : List (Bool)) (a_w0_1 : List (Int)) (r : (List (Int) × List (Bool))), mN_lockstepref06_Walk_visit n a_g a_x a_w0_0 a_w0_1 = some r → Spec Try.prog 35 [(.ptr 30000 0), (.agg (eTGraph a_g)), (.int .i64 a_x)] [(30000, .row 73 [(.vsl 35000 a_w0_0.length), (AV.list 1 eI64 (0 : Int) a_w0_1 .none)]), (35000, .arr 1 4 a_w0_0.length (fun i => eB (a_w0_0.getD i false)))] (.tuple []) [(30000, .row 73 [(.vsl 35000 r.2.length), (AV.list 1 eI64 (0 : Int) r.1 .none)]), (35000, .arr 1 4 r.2.length (fun i => eB (r.2.getD i false)))]) := by
  induction n with
  | zero => exact fun a_g a_x a_w0_0 a_w0_1 r h => by cases h
  | succ n ih =>
    have ih_lockstepref06_Walk_visit := ih
    intro a_g a_x a_w0_0 a_w0_1 r h
    refine spec_of_awp (fn := Try.f35) Try.func35 rfl rfl (by kernel_rfl) (fun Γ hn hΓ => ?_)
    have hn : Γ.n = 59 := hn
    change mB_lockstepref06_Walk_visit (mN_lockstepref06_Walk_visit n) a_g a_x a_w0_0 a_w0_1 = some r at h
    unfold mB_lockstepref06_Walk_visit at h
    refine rgs0 (⟨(Q197 a_x), [(4, .row 30 (Q191 a_g)), (30000, .row 73 [(.vsl 35000 a_w0_0.length), (AV.list 1 eI64 (0 : Int) a_w0_1 .none)]), (35000, .arr 1 4 a_w0_0.length (fun i => eB (a_w0_0.getD i false)))], []⟩ : St) hn mix (hand_in hΓ rfl) (by kernel_rfl) ?_
    obtain ⟨hc1, h⟩ := chk_some h
    refine rgs [] [] (⟨(Q197 a_x), [(4, .row 30 (Q191 a_g)), (30000, .row 73 [(.vsl 35000 a_w0_0.length), (AV.list 1 eI64 (0 : Int) a_w0_1 .none)]), (35000, .arr 1 4 a_w0_0.length (fun i_ => AV.eraseAll (fun n_ => memB n_ [4, 30000, 35000]) ((putF (fun i => eB (a_w0_0.getD i false)) (a_x).toNat 0 [(.bool true)]) i_)))], []⟩ : St) [(InB a_x a_w0_0.length), (a_w0_0.length = a_w0_0.length)] hn mix (hand_in hΓ rfl) (by kernel_rfl) ⟨hc1, rfl, trivial⟩ ?_
    refine awp_le (Le.trans (le_of (st' := (⟨(Q197 a_x), [(4, .row 30 (Q191 a_g)), (30000, .row 73 [(.vsl 35000 a_w0_0.length), (AV.list 1 eI64 (0 : Int) a_w0_1 .none)]), (35000, .arr 1 4 a_w0_0.length (fun i => eB ((a_w0_0.set (a_x).toNat true).getD i false)))], []⟩ : St)) (TmpsLe.refl _) (.same (.same (.arr (leL_of_eq (List.length_set ..).symm (fun k_ hk_ => (congrArg (AV.eraseAll (fun n_ => memB n_ [4, 30000, 35000])) ((putF_set (fun _ _ => rfl) (inB_lt0 hc1) rfl) k_ hk_)).trans rfl)) .nil)))) (le_eq (congrArg (fun k_ : Nat => (⟨(Q197 a_x), [(4, .row 30 (Q191 a_g)), (30000, .row 73 [(.vsl 35000 k_), (AV.list 1 eI64 (0 : Int) a_w0_1 .none)]), (35000, .arr 1 4 k_ (fun i => eB ((a_w0_0.set (a_x).toNat true).getD i false)))], []⟩ : St)) (show a_w0_0.length = (a_w0_0.set (a_x).toNat true).length from (List.length_set ..).symm)))) ?_
    refine awp_seq ?_
    refine rgs0 (⟨[(0, (.ptr 30000 0)), (2, (.int .i64 a_x)), (4, (.ptr 4 0)), (6, (.int .i64 (0 : Int)))], [(4, .row 30 (Q191 a_g)), (30000, .row 73 [(.vsl 35000 (a_w0_0.set (a_x).toNat true).length), (AV.list 1 eI64 (0 : Int) a_w0_1 .none)]), (35000, .arr 1 4 ((a_w0_0.set (a_x).toNat true).length) (fun i => eB ((a_w0_0.set (a_x).toNat true).getD i false)))], []⟩ : St) hn mix (hand_in hΓ rfl) (by kernel_rfl) ?_
    refine awp_block ?_
    refine awp_le (st' := (fun ((i2, l3, l4) : (Int × List (Int) × List (Bool))) => (⟨(Q192 a_x i2), (Q198 a_g l4 l3), []⟩ : St)) ((0 : Int), a_w0_1, (a_w0_0.set (a_x).toNat true))) (Le.refl _ _) ?_
    obtain ⟨x19, hx19, h⟩ := bind_some h
    refine awp_loop (fun ((i2, l3, l4) : (Int × List (Int) × List (Bool))) => (⟨(Q192 a_x i2), (Q198 a_g l4 l3), []⟩ : St)) _ (fun ((l5, l6) : (List (Int) × List (Bool))) (e : Exit) (st : St) => e = (.exit 0) ∧ Le Γ st (⟨[(0, (.ptr 30000 0)), (2, (.int .i64 a_x))], [(30000, .row 73 [(.vsl 35000 l6.length), (AV.list 1 eI64 (0 : Int) l5 .none)]), (35000, .arr 1 4 l6.length (fun i => eB (l6.getD i false)))], []⟩ : St)) ?_ hx19 ?_
    · rintro ⟨i2, l3, l4⟩ y h
      unfold mB_lockstepref06_Walk_visit_L1 at h
      refine awp_seq ?_
      obtain ⟨hc7, h⟩ := chk_some h
      refine rgs [] [] (⟨[(0, (.ptr 30000 0)), (2, (.int .i64 a_x)), (4, (.ptr 4 0)), (6, (.int .i64 i2)), (20, (.bool (decide ((i2 : Int) < ((a_g.Succ.getD (a_x).toNat []).length : Int)))))], (Q198 a_g l4 l3), []⟩ : St) [(InB a_x a_g.Succ.length)] hn mix (hand_in hΓ rfl) (by kernel_rfl) ⟨hc7, trivial⟩ ?_
      refine awp_cond (decide ((i2 : Int) < ((a_g.Succ.getD (a_x).toNat []).length : Int))) (by kernel_rfl) (fun hb => ?_) (fun hb => ?_)
      · replace h := cond_t hb h
        clear hb
        refine awp_skip ?_
        refine then_normal ?_
        refine awp_seq ?_
        obtain ⟨x17, hx17, h⟩ := bind_some h
        refine awp_join (fun ((l8, l9) : (List (Int) × List (Bool))) (e : Exit) (st : St) => e = .normal ∧ Le Γ st (⟨(Q192 a_x i2), [(4, .row 30 (Q191 a_g)), (30000, .row 73 [(.vsl 35000 l9.length), (AV.list 1 eI64 (0 : Int) l8 .none)]), (35000, .arr 1 4 l9.length (fun i => eB (l9.getD i false)))], []⟩ : St)) hx17 ?_ ?_
        · clear h hx17
          intro y h
          refine awp_block ?_
          obtain ⟨hc10, h⟩ := chk_some h
          obtain ⟨hc11, h⟩ := chk_some h
          obtain ⟨hc12, h⟩ := chk_some h
          refine rgs [] [] (⟨[(0, (.ptr 30000 0)), (2, (.int .i64 a_x)), (4, (.ptr 4 0)), (6, (.int .i64 i2)), (37, (.bool (!(l4.getD ((Q194 a_g a_x i2)).toNat false))))], (Q198 a_g l4 l3), []⟩ : St) [(InB a_x a_g.Succ.length), (InB i2 (a_g.Succ.getD (a_x).toNat []).length), (InB (Q194 a_g a_x i2) l4.length), (l4.length = l4.length)] hn mix (hand_in hΓ rfl) (by kernel_rfl) ⟨hc10, hc11, hc12, rfl, trivial⟩ ?_
          refine awp_cond (!(l4.getD ((Q194 a_g a_x i2)).toNat false)) (by kernel_rfl) (fun hb => ?_) (fun hb => ?_)
          · replace h := cond_t hb h
            clear hb
            obtain ⟨hc13, h⟩ := chk_some h
            obtain ⟨hc14, h⟩ := chk_some h
            obtain ⟨x15, hx15, h⟩ := bind_some h
            obtain ⟨hc16, h⟩ := chk_some h
            refine rg [⟨[(30000, 30000), (35000, 35000)], [], (.tuple []), [(30000, .row 73 (Q195 x15)), (35000, .arr 1 4 x15.2.length (fun i => eB (x15.2.getD i false)))]⟩] [] (⟨(Q192 a_x i2), [(4, .row 30 (Q191 a_g)), (30000, .row 73 (Q195 x15)), (35000, .arr 1 4 x15.2.length (fun i => eB (x15.2.getD i false)))], []⟩ : St) [(InB a_x a_g.Succ.length), (InB i2 (a_g.Succ.getD (a_x).toNat []).length), (Spec Try.prog 35 [(.ptr 30000 0), (.agg (eTGraph a_g)), (.int .i64 (Q194 a_g a_x i2))] [(30000, .row 73 (Q193 l4 l3)), (35000, .arr 1 4 l4.length (fun i => eB (l4.getD i false)))] (.tuple []) [(30000, .row 73 (Q195 x15)), (35000, .arr 1 4 x15.2.length (fun i => eB (x15.2.getD i false)))])] hn mix (hand_in hΓ rfl) (by kernel_rfl) ⟨hc13, hc14, (ih_lockstepref06_Walk_visit a_g (Q194 a_g a_x i2) l4 l3 x15 hx15), trivial⟩ ?_
            refine block_normal ?_
            obtain rfl := Option.some.inj h
            exact ⟨rfl, Le.trans (le_eq (congrArg (fun k_ : Nat => (⟨(Q192 a_x i2), [(4, .row 30 (Q191 a_g)), (30000, .row 73 (Q195 x15)), (35000, .arr 1 4 x15.2.length (fun i => eB (x15.2.getD i false)))], []⟩ : St)) (show l4.length = x15.2.length from hc16))) (Le.refl _ _)⟩
          · replace h := cond_f hb h
            clear hb
            refine awp_skip ?_
            refine block_normal ?_
            obtain rfl := Option.some.inj h
            exact ⟨rfl, le_restrict_eq [0, 2, 4, 6] [4, 30000, 35000] (by kernel_rfl) (hand_in hΓ rfl)⟩
        · clear hx17
          rcases x17 with ⟨l8, l9⟩
          rintro e st' ⟨rfl, hl18⟩
          refine then_normal ?_
          refine awp_le hl18 ?_
          refine rg0 (⟨[(0, (.ptr 30000 0)), (2, (.int .i64 a_x)), (4, (.ptr 4 0)), (6, (.int .i64 (w64 (i2 + (1 : Int)))))], [(4, .row 30 (Q191 a_g)), (30000, .row 73 [(.vsl 35000 l9.length), (AV.list 1 eI64 (0 : Int) l8 .none)]), (35000, .arr 1 4 l9.length (fun i => eB (l9.getD i false)))], []⟩ : St) hn mix (hand_in hΓ rfl) (by kernel_rfl) ?_
          obtain rfl := Option.some.inj h
          exact ⟨rfl, Le.refl _ _⟩
      · replace h := cond_f hb h
        clear hb
        refine awp_exit ?_
        refine then_exit ?_
        obtain rfl := Option.some.inj h
        exact ⟨(by intro hh; cases hh), rfl, le_restrict_eq [0, 2] [30000, 35000] (by kernel_rfl) (hand_in hΓ rfl)⟩
    · clear hx19
      rcases x19 with ⟨l5, l6⟩
      rintro e st' ⟨rfl, hl20⟩
      refine block_here ?_
      refine then_normal ?_
      refine awp_le hl20 ?_
      obtain ⟨hc21, h⟩ := chk_some h
      refine rg [] [(51, (AV.list 1 eI64 (0 : Int) (Q196 a_x) .exact)), (56, (AV.list 1 eI64 (0 : Int) ((Q196 a_x) ++ l5) (.own 56)))] (⟨[], [(56, .tok 1 3 (((Q196 a_x) ++ l5).length)), (30000, .row 73 [(.vsl 35000 l6.length), (AV.list 1 eI64 (0 : Int) ((Q196 a_x) ++ l5) (.own 56))]), (35000, .arr 1 4 l6.length (fun i => eB (l6.getD i false)))], []⟩ : St) [(AVle (.slice 1 1 (fun i => ([[(.int .i64 a_x)]] : List (List AV)).getD i []) .exact) (AV.list 1 eI64 (0 : Int) (Q196 a_x) .exact)), ((Q196 a_x).length + l5.length ≤ room), (3 = tokU8 → (Q196 a_x).length = 0 ∨ 0 < l5.length), (AVle (.slice 1 ((Q196 a_x).length + l5.length) (appF (Q196 a_x).length (fun i => eI64 ((Q196 a_x).getD i (0 : Int))) (fun i => eI64 (l5.getD i (0 : Int)))) (.own 56)) (AV.list 1 eI64 (0 : Int) ((Q196 a_x) ++ l5) (.own 56))), ((Q196 a_x).length + l5.length = ((Q196 a_x) ++ l5).length)] hn mix (hand_in hΓ rfl) (by kernel_rfl) ⟨(av_lit rfl (fun i hi => map_get (e := eI64) (d := (0 : Int)) (Q196 a_x) i hi)), hc21, (fun h_ => absurd h_ (by decide)), av_app, (len_app _ _), trivial⟩ ?_
      obtain rfl := Option.some.inj h
      exact ⟨.inr rfl, [(30000, 30000), (35000, 35000)], by kernel_rfl⟩
theorem ok_lockstepref06_Walk_visit (a_g : TGraph) (a_x : Int) (a_w0_0 : List (Bool)) (a_w0_1 : List (Int)) (r : (List (Int) × List (Bool))) (h : m_lockstepref06_Walk_visit a_g a_x a_w0_0 a_w0_1 = some r) : Spec Try.prog 35 [(.ptr 30000 0), (.agg (eTGraph a_g)), (.int .i64 a_x)] [(30000, .row 73 [(.vsl 35000 a_w0_0.length), (AV.list 1 eI64 (0 : Int) a_w0_1 .none)]), (35000, .arr 1 4 a_w0_0.length (fun i => eB (a_w0_0.getD i false)))] (.tuple []) [(30000, .row 73 [(.vsl 35000 r.2.length), (AV.list 1 eI64 (0 : Int) r.1 .none)]), (35000, .arr 1 4 r.2.length (fun i => eB (r.2.getD i false)))] := by
  obtain ⟨n, hn⟩ := fixO_some h
  exact (okN_lockstepref06_Walk_visit n) a_g a_x a_w0_0 a_w0_1 r hn

noncomputable def Q208 (a_g : TGraph) := (a_g.Succ.length : Int)
noncomputable def Q200 (a_g : TGraph) := (List.replicate ((Q208 a_g)).toNat false)
noncomputable def Q207 (a_g : TGraph) := (fun i => eB ((Q200 a_g).getD i false))
noncomputable def Q206 (a_g : TGraph) : AV := (.vsl 23 ((Q208 a_g)).toNat)
noncomputable def Q201 : AV := (AV.list 1 eI64 (0 : Int) ([] : List Int) .exact)
noncomputable def Q203 (a_root : Int) : List (Nat × AV) := [(1, (.int .i64 a_root)), (2, (.ptr 2 0)), (5, (.ptr 25 0))]
noncomputable def Q199 (x1 : Bool) (a_root : Int) := (bif (!x1) then true else (decide ((a_root : Int) < (0 : Int))))
noncomputable def Q202 (a_g : TGraph) : List AV := [(AV.list 1 eLI64 [] a_g.Succ .none), (AV.list 1 eLI64 [] a_g.Pred .none)]
noncomputable def Q205 (x3 : (List (Int) × List (Bool))) : List (Nat × Own) := [(30000, .row 73 [(.vsl 35000 x3.2.length), (AV.list 1 eI64 (0 : Int) x3.1 .none)]), (35000, .arr 1 4 x3.2.length (fun i => eB (x3.2.getD i false)))]
noncomputable def Q204 (x3 : (List (Int) × List (Bool))) := (⟨[(5, (.ptr 25 0))], [(23, .arr 1 4 x3.2.length (fun i => eB (x3.2.getD i false))), (25, .row 73 [(.vsl 23 x3.2.length), (AV.list 1 eI64 (0 : Int) x3.1 .none)])], []⟩ : St)
noncomputable def m_lockstepref06_Order (a_g : TGraph) (a_root : Int) : Option (List (Int)) :=
  ((m_lockstepref06_May a_g).bind fun x1 => (bif (bif (bif (!x1) then true else (decide ((a_root : Int) < (0 : Int)))) then true else (decide (((a_g.Succ.length : Int) : Int) ≤ a_root))) then (some ([] : List Int)) else (chk (0 ≤ (a_g.Succ.length : Int) ∧ (a_g.Succ.length : Int) ≤ (a_g.Succ.length : Int) ∧ (a_g.Succ.length : Int) ≤ (room : Int)) ((m_lockstepref06_Walk_visit a_g a_root (List.replicate ((a_g.Succ.length : Int)).toNat false) ([] : List Int)).bind fun x3 => (chk ((List.replicate ((a_g.Succ.length : Int)).toNat false).length = x3.2.length) (some x3.1))))))
theorem ok_lockstepref06_Order (a_g : TGraph) (a_root : Int) (r : List (Int)) (h : m_lockstepref06_Order a_g a_root = some r) : Spec Try.prog 21 [(.agg (eTGraph a_g)), (.int .i64 a_root)] [] (AV.list 1 eI64 (0 : Int) r .none) [] := by
  refine spec_of_awp (fn := Try.f21) Try.func21 rfl rfl (by kernel_rfl) (fun Γ hn hΓ => ?_)
  have hn : Γ.n = 34 := hn
  unfold m_lockstepref06_Order at h
  refine rgs [] [(4, Q201)] (⟨[(1, (.int .i64 a_root)), (2, (.ptr 2 0))], [(2, .row 30 (Q202 a_g))], []⟩ : St) [(AVle (.slice 0 0 (fun _ => []) .exact) Q201)] hn mix (no_hand hΓ) (by kernel_rfl) ⟨av_nil, trivial⟩ ?_
  refine awp_seq ?_
  obtain ⟨x1, hx1, h⟩ := bind_some h
  refine rgs [⟨[], [], (.bool x1), []⟩] [] (⟨[(1, (.int .i64 a_root)), (2, (.ptr 2 0)), (19, (.bool (bif (Q199 x1 a_root) then true else (decide (((Q208 a_g) : Int) ≤ a_root)))))], [(2, .row 30 (Q202 a_g))], []⟩ : St) [(Spec Try.prog 18 [(.agg (eTGraph a_g))] [] (.bool x1) []), (((!x1) == false) = true → ((!x1) == false) = true), ((!x1) = false → ((!x1) == false) = true), (((Q199 x1 a_root) == false) = true → ((Q199 x1 a_root) == false) = true), (((Q199 x1 a_root) == false) = true → ((Q199 x1 a_root) == false) = true), (((Q199 x1 a_root) == false) = true → ((Q199 x1 a_root) == false) = true), (((Q199 x1 a_root) == false) = true → ((Q199 x1 a_root) == false) = true), ((Q199 x1 a_root) = false → ((Q199 x1 a_root) == false) = true)] hn mix (no_hand hΓ) (by kernel_rfl) ⟨(ok_lockstepref06_May a_g x1 hx1), (fun hg => hg), gF, (fun hg => hg), (fun hg => hg), (fun hg => hg), (fun hg => hg), gF, trivial⟩ ?_
  refine awp_cond (bif (Q199 x1 a_root) then true else (decide (((Q208 a_g) : Int) ≤ a_root))) (by kernel_rfl) (fun hb => ?_) (fun hb => ?_)
  · replace h := cond_t hb h
    clear hb
    refine rgs [] [(4, Q201)] (⟨[(4, Q201)], [], []⟩ : St) [(AVle (.slice 0 0 (fun _ => []) .exact) Q201)] hn mix (no_hand hΓ) (by kernel_rfl) ⟨av_nil, trivial⟩ ?_
    refine awp_le (st' := (⟨[(4, (AV.list 1 eI64 (0 : Int) ([] : List Int) .none))], [], []⟩ : St)) (Le.trans (le_restrict_eq (st' := (⟨[(4, Q201)], [], []⟩ : St)) [4] [] (by kernel_rfl) (no_hand hΓ)) (le_of (.cons AVle.untag .nil) .nil)) ?_
    refine awp_ret ?_
    refine then_ret ?_
    obtain rfl := Option.some.inj h
    exact ⟨.inl rfl, [], by kernel_rfl⟩
  · replace h := cond_f hb h
    clear hb
    refine awp_skip ?_
    refine then_normal ?_
    obtain ⟨hc2, h⟩ := chk_some h
    refine rgs [] [(24, (.agg [(Q206 a_g), Q201]))] (⟨(Q203 a_root), [(2, .row 30 (Q202 a_g)), (23, .arr 1 4 (((Q208 a_g)).toNat) (fun i_ => AV.eraseAll (fun n_ => memB n_ [2, 23, 25]) ((fun _ => [(.bool false)]) i_))), (25, .row 73 [(Q206 a_g), Q201])], []⟩ : St) [(0 ≤ (Q208 a_g) ∧ (Q208 a_g) ≤ (Q208 a_g) ∧ (Q208 a_g) ≤ (room : Int)), (AVle (.agg [(Q206 a_g), (.slice 0 0 (fun _ => []) .exact)]) (.agg [(Q206 a_g), Q201]))] hn mix (no_hand hΓ) (by kernel_rfl) ⟨hc2, (AVle.agg (.cons (AVle.refl _) (.cons av_nil .nil))), trivial⟩ ?_
    refine awp_le (Le.trans (le_of (st' := (⟨(Q203 a_root), [(2, .row 30 (Q202 a_g)), (23, .arr 1 4 (((Q208 a_g)).toNat) (Q207 a_g)), (25, .row 73 [(Q206 a_g), Q201])], []⟩ : St)) (TmpsLe.refl _) (.same (.arr (fun k hk => make_le (e := eB) (d := false) (.cons (AVle.refl _) .nil) _ k (repl_lt hk)) (.same .nil)))) (le_eq (congrArg (fun k_ : Nat => (⟨(Q203 a_root), [(2, .row 30 (Q202 a_g)), (23, .arr 1 4 k_ (Q207 a_g)), (25, .row 73 [(.vsl 23 k_), Q201])], []⟩ : St)) (show ((Q208 a_g)).toNat = (Q200 a_g).length from (List.length_replicate ..).symm)))) ?_
    refine awp_seq ?_
    refine awp_le (st' := (⟨(Q203 a_root), [(2, .row 30 (Q202 a_g)), (23, .arr 1 4 ((Q200 a_g).length) (Q207 a_g)), (25, .row 73 [(.vsl 23 (Q200 a_g).length), (AV.list 1 eI64 (0 : Int) ([] : List Int) .none)])], []⟩ : St)) (Le.trans (le_restrict_eq (st' := (⟨(Q203 a_root), [(2, .row 30 (Q202 a_g)), (23, .arr 1 4 ((Q200 a_g).length) (Q207 a_g)), (25, .row 73 [(.vsl 23 (Q200 a_g).length), Q201])], []⟩ : St)) [1, 2, 5] [2, 23, 25] (by kernel_rfl) (no_hand hΓ)) (le_of (.cons (AVle.refl _) (.cons (AVle.refl _) (.cons (AVle.refl _) .nil))) (.same (.same (.row (.cons (AVle.refl _) (.cons AVle.untag .nil)) .nil))))) ?_
    obtain ⟨x3, hx3, h⟩ := bind_some h
    obtain ⟨hc4, h⟩ := chk_some h
    refine rg [⟨[(25, 30000), (23, 35000)], [], (.tuple []), (Q205 x3)⟩] [] (Q204 x3) [(Spec Try.prog 35 [(.ptr 30000 0), (.agg (eTGraph a_g)), (.int .i64 a_root)] [(30000, .row 73 [(.vsl 35000 (Q200 a_g).length), (AV.list 1 eI64 (0 : Int) ([] : List Int) .none)]), (35000, .arr 1 4 ((Q200 a_g).length) (Q207 a_g))] (.tuple []) (Q205 x3))] hn mix (no_hand hΓ) (by kernel_rfl) ⟨(ok_lockstepref06_Walk_visit a_g a_root (Q200 a_g) ([] : List Int) x3 hx3), trivial⟩ ?_
    refine then_normal ?_
    refine awp_le (le_eq (congrArg (fun k_ : Nat => (Q204 x3)) (show (Q200 a_g).length = x3.2.length from hc4))) ?_
    refine rgs0 (⟨[(4, (AV.list 1 eI64 (0 : Int) x3.1 .none))], [], []⟩ : St) hn mix (no_hand hΓ) (by kernel_rfl) ?_
    refine awp_ret ?_
    obtain rfl := Option.some.inj h
    exact ⟨.inl rfl, [], by kernel_rfl⟩

noncomputable def Q209 : AV := (AV.list 1 eLI64 [] ([] : List (List (Int))) .exact)
noncomputable def Q210 (a_g : TGraph) : List (Nat × Own) := [(1, .row 30 [(AV.list 1 eLI64 [] a_g.Succ .none), (AV.list 1 eLI64 [] a_g.Pred .none)]), (2, .row 30 [(.slice 0 0 (fun _ => []) .exact), (.slice 0 0 (fun _ => []) .exact)])]
noncomputable def m_graph_Turned (a_g : TGraph) : Option TGraph :=
  ((m_graph_May a_g).bind fun x1 => (bif (!x1) then (some (⟨([] : List (List (Int))), ([] : List (List (Int)))⟩ : TGraph)) else ((m_graph_copied a_g.Pred).bind fun x2 => ((m_graph_copied a_g.Succ).bind fun x3 => (some (⟨x2, x3⟩ : TGraph))))))
theorem ok_graph_Turned (a_g : TGraph) (r : TGraph) (h : m_graph_Turned a_g = some r) : Spec Try.prog 22 [(.agg (eTGraph a_g))] [] (.agg (eTGraph r)) [] := by
  refine spec_of_awp (fn := Try.f22) Try.func22 rfl rfl (by kernel_rfl) (fun Γ hn hΓ => ?_)
  have hn : Γ.n = 14 := hn
  unfold m_graph_Turned at h
  refine rgs0 (⟨[(1, (.ptr 1 0)), (2, (.ptr 2 0))], (Q210 a_g), []⟩ : St) hn mix (no_hand hΓ) (by kernel_rfl) ?_
  refine awp_seq ?_
  obtain ⟨x1, hx1, h⟩ := bind_some h
  refine rgs [⟨[], [], (.bool x1), []⟩] [] (⟨[(1, (.ptr 1 0)), (2, (.ptr 2 0)), (5, (.bool (!x1)))], (Q210 a_g), []⟩ : St) [(Spec Try.prog 14 [(.agg (eTGraph a_g))] [] (.bool x1) [])] hn mix (no_hand hΓ) (by kernel_rfl) ⟨(ok_graph_May a_g x1 hx1), trivial⟩ ?_
  refine awp_cond (!x1) (by kernel_rfl) (fun hb => ?_) (fun hb => ?_)
  · replace h := cond_t hb h
    clear hb
    refine rgs [] [(6, (.agg [Q209, Q209]))] (⟨[(2, (.ptr 2 0))], [(2, .row 30 [Q209, Q209])], []⟩ : St) [(AVle (.agg [(.slice 0 0 (fun _ => []) .exact), (.slice 0 0 (fun _ => []) .exact)]) (.agg [Q209, Q209]))] hn mix (no_hand hΓ) (by kernel_rfl) ⟨(AVle.agg (.cons av_nil (.cons av_nil .nil))), trivial⟩ ?_
    refine awp_le (st' := (⟨[(2, (.ptr 2 0))], [(2, .row 30 [(AV.list 1 eLI64 [] ([] : List (List (Int))) .none), (AV.list 1 eLI64 [] ([] : List (List (Int))) .none)])], []⟩ : St)) (Le.trans (le_restrict_eq (st' := (⟨[(2, (.ptr 2 0))], [(2, .row 30 [Q209, Q209])], []⟩ : St)) [2] [2] (by kernel_rfl) (no_hand hΓ)) (le_of (.cons (AVle.refl _) .nil) (.row (.cons AVle.untag (.cons AVle.untag .nil)) .nil))) ?_
    refine awp_ret ?_
    refine then_ret ?_
    obtain rfl := Option.some.inj h
    exact ⟨.inl rfl, [], by kernel_rfl⟩
  · replace h := cond_f hb h
    clear hb
    refine awp_skip ?_
    refine then_normal ?_
    obtain ⟨x2, hx2, h⟩ := bind_some h
    obtain ⟨x3, hx3, h⟩ := bind_some h
    refine rgs [⟨[], [(20000, 9)], (AV.list 1 eLI64 [] x2 (.own 20000)), [(20000, .tok 1 22 x2.length)]⟩, ⟨[], [(20000, 12)], (AV.list 1 eLI64 [] x3 (.own 20000)), [(20000, .tok 1 22 x3.length)]⟩] [] (⟨[(2, (.ptr 2 0))], [(2, .row 30 [(AV.list 1 eLI64 [] x2 (.own 9)), (AV.list 1 eLI64 [] x3 (.own 12))]), (9, .tok 1 22 x2.length), (12, .tok 1 22 x3.length)], []⟩ : St) [(Spec Try.prog 32 [(AV.list 1 eLI64 [] a_g.Pred .none)] [] (AV.list 1 eLI64 [] x2 (.own 20000)) [(20000, .tok 1 22 x2.length)]), (Spec Try.prog 32 [(AV.list 1 eLI64 [] a_g.Succ .none)] [] (AV.list 1 eLI64 [] x3 (.own 20000)) [(20000, .tok 1 22 x3.length)])] hn mix (no_hand hΓ) (by kernel_rfl) ⟨(ok_graph_copied a_g.Pred x2 hx2), (ok_graph_copied a_g.Succ x3 hx3), trivial⟩ ?_
    refine awp_ret ?_
    obtain rfl := Option.some.inj h
    exact ⟨.inl rfl, [], by kernel_rfl⟩

noncomputable def Q218 (a_p1 : List (List (Int))) : AV := (AV.list 1 eLI64 [] a_p1 .none)
noncomputable def Q211 (x6 : Bool) (x4 : (TGraph × Int)) (x5 : (TGraph × Int)) (x7 : Bool) (x8 : Bool) := (bif (bif (!x6) then true else ((x4.2 : Int) != x5.2)) then true else (x7 != x8))
noncomputable def Q219 (x6 : Bool) (x4 : (TGraph × Int)) (x5 : (TGraph × Int)) (x7 : Bool) (x8 : Bool) := ((Q211 x6 x4 x5 x7 x8) == false)
noncomputable def Q215 (a_succ : List (List (Int))) : AV := (AV.list 1 eLI64 [] a_succ .none)
noncomputable def Q217 (x15 : Bool) (x16 : Bool) := ((bif x15 then x16 else false) == true)
noncomputable def Q214 (x12 : TGraph) := (((x12.Succ.length : Int) : Int) == (0 : Int))
noncomputable def Q212 (x6 : Bool) (x4 : (TGraph × Int)) (x5 : (TGraph × Int)) := ((bif (!x6) then true else ((x4.2 : Int) != x5.2)) == false)
noncomputable def Q213 (x4 : (TGraph × Int)) : List AV := [(AV.list 1 eLI64 [] x4.1.Succ .none), (AV.list 1 eLI64 [] x4.1.Pred .none)]
noncomputable def Q216 (x5 : (TGraph × Int)) : List AV := [(AV.list 1 eLI64 [] x5.1.Succ .none), (AV.list 1 eLI64 [] x5.1.Pred .none)]
noncomputable def m_locksteplaw06_GraphOrders (a_succ : List (List (Int))) (a_p1 : List (List (Int))) (a_p2 : Int) : Option Bool :=
  ((m_locksteplaw06_awake).bind fun x1 => (bif (!x1) then (some false) else ((m_lockstepref06_Small a_succ).bind fun x2 => ((bif ((!x2) == false) then m_lockstepref06_Small a_p1 else some false).bind fun x3 => (bif (bif (!x2) then true else (!x3)) then (some true) else ((m_graph_Make a_succ).bind fun x4 => ((m_lockstepref06_Make a_succ).bind fun x5 => ((m_lockstepref06_Same x4.1 x5.1).bind fun x6 => ((bif ((bif (!x6) then true else ((x4.2 : Int) != x5.2)) == false) then m_graph_May (⟨a_succ, a_p1⟩ : TGraph) else some false).bind fun x7 => ((bif ((bif (!x6) then true else ((x4.2 : Int) != x5.2)) == false) then m_lockstepref06_May (⟨a_succ, a_p1⟩ : TGraph) else some false).bind fun x8 => ((bif ((bif (bif (!x6) then true else ((x4.2 : Int) != x5.2)) then true else (x7 != x8)) == false) then m_graph_Order (⟨a_succ, a_p1⟩ : TGraph) a_p2 else some []).bind fun x9 => ((bif ((bif (bif (!x6) then true else ((x4.2 : Int) != x5.2)) then true else (x7 != x8)) == false) then m_lockstepref06_Order (⟨a_succ, a_p1⟩ : TGraph) a_p2 else some []).bind fun x10 => ((bif ((bif (bif (!x6) then true else ((x4.2 : Int) != x5.2)) then true else (x7 != x8)) == false) then m_lockstepref02_Ints x9 x10 else some false).bind fun x11 => (bif (bif (bif (bif (!x6) then true else ((x4.2 : Int) != x5.2)) then true else (x7 != x8)) then true else (!x11)) then (some false) else ((m_graph_Turned x4.1).bind fun x12 => (bif ((x4.2 : Int) != (0 : Int)) then (some (bif (((x12.Succ.length : Int) : Int) == (0 : Int)) then (((x12.Pred.length : Int) : Int) == (0 : Int)) else false)) else ((m_graph_Order x4.1 a_p2).bind fun x13 => ((m_lockstepref06_Order x5.1 a_p2).bind fun x14 => ((m_lockstepref02_Ints x13 x14).bind fun x15 => ((bif (x15 == true) then m_lockstepref06_Same x12 (⟨x5.1.Pred, x5.1.Succ⟩ : TGraph) else some false).bind fun x16 => ((bif ((bif x15 then x16 else false) == true) then m_graph_Turned x12 else some (default : TGraph)).bind fun x17 => ((bif ((bif x15 then x16 else false) == true) then m_lockstepref06_Same x17 x5.1 else some false).bind fun x18 => (some (bif (bif x15 then x16 else false) then x18 else false))))))))))))))))))))))))
theorem ok_locksteplaw06_GraphOrders (a_succ : List (List (Int))) (a_p1 : List (List (Int))) (a_p2 : Int) (r : Bool) (h : m_locksteplaw06_GraphOrders a_succ a_p1 a_p2 = some r) : Spec Try.prog 4 [(AV.list 1 eLI64 [] a_succ .none), (AV.list 1 eLI64 [] a_p1 .none), (.int .i64 a_p2)] [] (.bool r) [] := by
  refine spec_of_awp (fn := Try.f4) Try.func4 rfl rfl (by kernel_rfl) (fun Γ hn hΓ => ?_)
  have hn : Γ.n = 98 := hn
  unfold m_locksteplaw06_GraphOrders at h
  refine rgs0 (⟨[(0, (Q215 a_succ)), (1, (Q218 a_p1)), (2, (.int .i64 a_p2))], [], []⟩ : St) hn mix (no_hand hΓ) (by kernel_rfl) ?_
  refine awp_seq ?_
  obtain ⟨x1, hx1, h⟩ := bind_some h
  refine rgs [⟨[], [], (.bool x1), []⟩] [] (⟨[(0, (Q215 a_succ)), (1, (Q218 a_p1)), (2, (.int .i64 a_p2)), (14, (.bool (!x1)))], [], []⟩ : St) [(Spec Try.prog 9 [] [] (.bool x1) [])] hn mix (no_hand hΓ) (by kernel_rfl) ⟨(ok_locksteplaw06_awake  x1 hx1), trivial⟩ ?_
  refine awp_cond (!x1) (by kernel_rfl) (fun hb => ?_) (fun hb => ?_)
  · replace h := cond_t hb h
    clear hb
    refine rgs0 (⟨[(6, (.bool false))], [], []⟩ : St) hn mix (no_hand hΓ) (by kernel_rfl) ?_
    refine awp_ret ?_
    refine then_ret ?_
    obtain rfl := Option.some.inj h
    exact ⟨.inl rfl, [], by kernel_rfl⟩
  · replace h := cond_f hb h
    clear hb
    refine awp_skip ?_
    refine then_normal ?_
    refine awp_seq ?_
    obtain ⟨x2, hx2, h⟩ := bind_some h
    obtain ⟨x3, hx3, h⟩ := bind_some h
    refine rgs [⟨[], [], (.bool x2), []⟩, ⟨[], [], (.bool x3), []⟩] [] (⟨[(0, (Q215 a_succ)), (1, (Q218 a_p1)), (2, (.int .i64 a_p2)), (22, (.bool (bif (!x2) then true else (!x3))))], [], []⟩ : St) [(Spec Try.prog 15 [(Q215 a_succ)] [] (.bool x2) []), (((!x2) == false) = true → ((!x2) == false) = true), (((!x2) == false) = true → (Spec Try.prog 15 [(Q218 a_p1)] [] (.bool x3) [])), (((!x2) == false) = true → ((!x2) == false) = true), ((!x2) = false → ((!x2) == false) = true)] hn mix (no_hand hΓ) (by kernel_rfl) ⟨(ok_lockstepref06_Small a_succ x2 hx2), (fun hg => hg), (fun hg => (ok_lockstepref06_Small a_p1 x3 (cond_t hg hx3))), (fun hg => hg), gF, trivial⟩ ?_
    refine awp_cond (bif (!x2) then true else (!x3)) (by kernel_rfl) (fun hb => ?_) (fun hb => ?_)
    · replace h := cond_t hb h
      clear hb
      refine rgs0 (⟨[(6, (.bool true))], [], []⟩ : St) hn mix (no_hand hΓ) (by kernel_rfl) ?_
      refine awp_ret ?_
      refine then_ret ?_
      obtain rfl := Option.some.inj h
      exact ⟨.inl rfl, [], by kernel_rfl⟩
    · replace h := cond_f hb h
      clear hb
      refine awp_skip ?_
      refine then_normal ?_
      obtain ⟨x4, hx4, h⟩ := bind_some h
      refine rgs [⟨[], [], (.tuple [(.agg (eTGraph x4.1)), (.int .i64 x4.2)]), []⟩] [] (⟨[(0, (Q215 a_succ)), (1, (Q218 a_p1)), (2, (.int .i64 a_p2)), (7, (.ptr 7 0)), (8, (.int .i64 x4.2))], [(7, .row 30 (Q213 x4))], []⟩ : St) [(Spec Try.prog 16 [(Q215 a_succ)] [] (.tuple [(.agg (eTGraph x4.1)), (.int .i64 x4.2)]) [])] hn mix (no_hand hΓ) (by kernel_rfl) ⟨(ok_graph_Make a_succ x4 hx4), trivial⟩ ?_
      obtain ⟨x5, hx5, h⟩ := bind_some h
      refine rgs [⟨[], [], (.tuple [(.agg (eTGraph x5.1)), (.int .i64 x5.2)]), []⟩] [] (⟨[(0, (Q215 a_succ)), (1, (Q218 a_p1)), (2, (.int .i64 a_p2)), (7, (.ptr 7 0)), (8, (.int .i64 x4.2)), (9, (.ptr 9 0)), (10, (.int .i64 x5.2))], [(7, .row 30 (Q213 x4)), (9, .row 30 (Q216 x5))], []⟩ : St) [(Spec Try.prog 17 [(Q215 a_succ)] [] (.tuple [(.agg (eTGraph x5.1)), (.int .i64 x5.2)]) [])] hn mix (no_hand hΓ) (by kernel_rfl) ⟨(ok_lockstepref06_Make a_succ x5 hx5), trivial⟩ ?_
      refine rgs0 (⟨[(2, (.int .i64 a_p2)), (7, (.ptr 7 0)), (8, (.int .i64 x4.2)), (9, (.ptr 9 0)), (10, (.int .i64 x5.2)), (11, (.ptr 11 0))], [(7, .row 30 (Q213 x4)), (9, .row 30 (Q216 x5)), (11, .row 30 [(Q215 a_succ), (Q218 a_p1)])], []⟩ : St) hn mix (no_hand hΓ) (by kernel_rfl) ?_
      refine awp_seq ?_
      obtain ⟨x6, hx6, h⟩ := bind_some h
      obtain ⟨x7, hx7, h⟩ := bind_some h
      obtain ⟨x8, hx8, h⟩ := bind_some h
      obtain ⟨x9, hx9, h⟩ := bind_some h
      obtain ⟨x10, hx10, h⟩ := bind_some h
      obtain ⟨x11, hx11, h⟩ := bind_some h
      refine rgs [⟨[], [], (.bool x6), []⟩, ⟨[], [], (.bool x7), []⟩, ⟨[], [], (.bool x8), []⟩, ⟨[], [], (AV.list 1 eI64 (0 : Int) x9 .none), []⟩, ⟨[], [], (AV.list 1 eI64 (0 : Int) x10 .none), []⟩, ⟨[], [], (.bool x11), []⟩] [] (⟨[(2, (.int .i64 a_p2)), (7, (.ptr 7 0)), (8, (.int .i64 x4.2)), (9, (.ptr 9 0)), (61, (.bool (bif (Q211 x6 x4 x5 x7 x8) then true else (!x11))))], [(7, .row 30 (Q213 x4)), (9, .row 30 (Q216 x5))], []⟩ : St) [(Spec Try.prog 13 [(.agg (eTGraph x4.1)), (.agg (eTGraph x5.1))] [] (.bool x6) []), (((!x6) == false) = true → ((!x6) == false) = true), (((!x6) == false) = true → ((!x6) == false) = true), ((!x6) = false → ((!x6) == false) = true), ((Q212 x6 x4 x5) = true → (Q212 x6 x4 x5) = true), ((Q212 x6 x4 x5) = true → (Spec Try.prog 14 [(.agg [(Q215 a_succ), (Q218 a_p1)])] [] (.bool x7) [])), ((Q212 x6 x4 x5) = true → (Q212 x6 x4 x5) = true), ((Q212 x6 x4 x5) = true → (Spec Try.prog 18 [(.agg [(Q215 a_succ), (Q218 a_p1)])] [] (.bool x8) [])), ((Q212 x6 x4 x5) = true → (Q212 x6 x4 x5) = true), ((Q212 x6 x4 x5) = true → (Q212 x6 x4 x5) = true), ((bif (!x6) then true else ((x4.2 : Int) != x5.2)) = false → (Q212 x6 x4 x5) = true), ((Q219 x6 x4 x5 x7 x8) = true → (Q219 x6 x4 x5 x7 x8) = true), ((Q219 x6 x4 x5 x7 x8) = true → (Q219 x6 x4 x5 x7 x8) = true), ((Q219 x6 x4 x5 x7 x8) = true → (Spec Try.prog 20 [(.agg [(Q215 a_succ), (Q218 a_p1)]), (.int .i64 a_p2)] [] (AV.list 1 eI64 (0 : Int) x9 .none) [])), ((Q219 x6 x4 x5 x7 x8) = true → (Q219 x6 x4 x5 x7 x8) = true), ((Q219 x6 x4 x5 x7 x8) = true → (Q219 x6 x4 x5 x7 x8) = true), ((Q219 x6 x4 x5 x7 x8) = true → (Spec Try.prog 21 [(.agg [(Q215 a_succ), (Q218 a_p1)]), (.int .i64 a_p2)] [] (AV.list 1 eI64 (0 : Int) x10 .none) [])), ((Q219 x6 x4 x5 x7 x8) = true → (Q219 x6 x4 x5 x7 x8) = true), ((Q219 x6 x4 x5 x7 x8) = true → (Q219 x6 x4 x5 x7 x8) = true), ((Q219 x6 x4 x5 x7 x8) = true → (Spec Try.prog 19 [(AV.list 1 eI64 (0 : Int) x9 .none), (AV.list 1 eI64 (0 : Int) x10 .none)] [] (.bool x11) [])), ((Q219 x6 x4 x5 x7 x8) = true → (Q219 x6 x4 x5 x7 x8) = true), ((Q211 x6 x4 x5 x7 x8) = false → (Q219 x6 x4 x5 x7 x8) = true)] hn mix (no_hand hΓ) (by kernel_rfl) ⟨(ok_lockstepref06_Same x4.1 x5.1 x6 hx6), (fun hg => hg), (fun hg => hg), gF, (fun hg => hg), (fun hg => (ok_graph_May (⟨a_succ, a_p1⟩ : TGraph) x7 (cond_t hg hx7))), (fun hg => hg), (fun hg => (ok_lockstepref06_May (⟨a_succ, a_p1⟩ : TGraph) x8 (cond_t hg hx8))), (fun hg => hg), (fun hg => hg), gF, (fun hg => hg), (fun hg => hg), (fun hg => (Spec.drop (ok_graph_Order (⟨a_succ, a_p1⟩ : TGraph) a_p2 x9 (cond_t hg hx9)))), (fun hg => hg), (fun hg => hg), (fun hg => (ok_lockstepref06_Order (⟨a_succ, a_p1⟩ : TGraph) a_p2 x10 (cond_t hg hx10))), (fun hg => hg), (fun hg => hg), (fun hg => (ok_lockstepref02_Ints x9 x10 x11 (cond_t hg hx11))), (fun hg => hg), gF, trivial⟩ ?_
      refine awp_cond (bif (Q211 x6 x4 x5 x7 x8) then true else (!x11)) (by kernel_rfl) (fun hb => ?_) (fun hb => ?_)
      · replace h := cond_t hb h
        clear hb
        refine rgs0 (⟨[(6, (.bool false))], [], []⟩ : St) hn mix (no_hand hΓ) (by kernel_rfl) ?_
        refine awp_ret ?_
        refine then_ret ?_
        obtain rfl := Option.some.inj h
        exact ⟨.inl rfl, [], by kernel_rfl⟩
      · replace h := cond_f hb h
        clear hb
        refine awp_skip ?_
        refine then_normal ?_
        obtain ⟨x12, hx12, h⟩ := bind_some h
        refine rgs [⟨[], [], (.agg (eTGraph x12)), []⟩] [] (⟨[(2, (.int .i64 a_p2)), (7, (.ptr 7 0)), (8, (.int .i64 x4.2)), (9, (.ptr 9 0)), (12, (.ptr 12 0))], [(7, .row 30 (Q213 x4)), (9, .row 30 (Q216 x5)), (12, .row 30 [(AV.list 1 eLI64 [] x12.Succ .none), (AV.list 1 eLI64 [] x12.Pred .none)])], []⟩ : St) [(Spec Try.prog 22 [(.agg (eTGraph x4.1))] [] (.agg (eTGraph x12)) [])] hn mix (no_hand hΓ) (by kernel_rfl) ⟨(ok_graph_Turned x4.1 x12 hx12), trivial⟩ ?_
        refine awp_seq ?_
        refine rgs0 (⟨[(2, (.int .i64 a_p2)), (7, (.ptr 7 0)), (9, (.ptr 9 0)), (12, (.ptr 12 0)), (65, (.bool ((x4.2 : Int) != (0 : Int))))], [(7, .row 30 (Q213 x4)), (9, .row 30 (Q216 x5)), (12, .row 30 [(AV.list 1 eLI64 [] x12.Succ .none), (AV.list 1 eLI64 [] x12.Pred .none)])], []⟩ : St) hn mix (no_hand hΓ) (by kernel_rfl) ?_
        refine awp_cond ((x4.2 : Int) != (0 : Int)) (by kernel_rfl) (fun hb => ?_) (fun hb => ?_)
        · replace h := cond_t hb h
          clear hb
          refine rgs [] [] (⟨[(6, (.bool (bif (Q214 x12) then (((x12.Pred.length : Int) : Int) == (0 : Int)) else false)))], [], []⟩ : St) [(((Q214 x12) == true) = true → ((Q214 x12) == true) = true), (((Q214 x12) == true) = true → ((Q214 x12) == true) = true), (((Q214 x12) == true) = true → ((Q214 x12) == true) = true), ((Q214 x12) = true → ((Q214 x12) == true) = true)] hn mix (no_hand hΓ) (by kernel_rfl) ⟨(fun hg => hg), (fun hg => hg), (fun hg => hg), gT, trivial⟩ ?_
          refine awp_ret ?_
          refine then_ret ?_
          obtain rfl := Option.some.inj h
          exact ⟨.inl rfl, [], by kernel_rfl⟩
        · replace h := cond_f hb h
          clear hb
          refine awp_skip ?_
          refine then_normal ?_
          obtain ⟨x13, hx13, h⟩ := bind_some h
          obtain ⟨x14, hx14, h⟩ := bind_some h
          obtain ⟨x15, hx15, h⟩ := bind_some h
          obtain ⟨x16, hx16, h⟩ := bind_some h
          obtain ⟨x17, hx17, h⟩ := bind_some h
          obtain ⟨x18, hx18, h⟩ := bind_some h
          refine rgs [⟨[], [(20000, 78)], (AV.list 1 eI64 (0 : Int) x13 (.own 20000)), [(20000, .tok 1 3 x13.length)]⟩, ⟨[], [], (AV.list 1 eI64 (0 : Int) x14 .none), []⟩, ⟨[], [], (.bool x15), []⟩, ⟨[], [], (.bool x16), []⟩, ⟨[], [], (.agg (eTGraph x17)), []⟩, ⟨[], [], (.bool x18), []⟩] [] (⟨[(6, (.bool (bif (bif x15 then x16 else false) then x18 else false)))], [], []⟩ : St) [(Spec Try.prog 20 [(.agg (eTGraph x4.1)), (.int .i64 a_p2)] [] (AV.list 1 eI64 (0 : Int) x13 (.own 20000)) [(20000, .tok 1 3 x13.length)]), (Spec Try.prog 21 [(.agg (eTGraph x5.1)), (.int .i64 a_p2)] [] (AV.list 1 eI64 (0 : Int) x14 .none) []), (Spec Try.prog 19 [(AV.list 1 eI64 (0 : Int) x13 .none), (AV.list 1 eI64 (0 : Int) x14 .none)] [] (.bool x15) []), ((x15 == true) = true → (x15 == true) = true), ((x15 == true) = true → (x15 == true) = true), ((x15 == true) = true → (x15 == true) = true), ((x15 == true) = true → (x15 == true) = true), ((x15 == true) = true → (x15 == true) = true), ((x15 == true) = true → (x15 == true) = true), ((x15 == true) = true → (Spec Try.prog 13 [(.agg (eTGraph x12)), (.agg [(AV.list 1 eLI64 [] x5.1.Pred .none), (AV.list 1 eLI64 [] x5.1.Succ .none)])] [] (.bool x16) [])), (x15 = true → (x15 == true) = true), ((Q217 x15 x16) = true → (Q217 x15 x16) = true), ((Q217 x15 x16) = true → (Spec Try.prog 22 [(.agg (eTGraph x12))] [] (.agg (eTGraph x17)) [])), ((Q217 x15 x16) = true → (Q217 x15 x16) = true), ((Q217 x15 x16) = true → (Q217 x15 x16) = true), ((Q217 x15 x16) = true → (Spec Try.prog 13 [(.agg (eTGraph x17)), (.agg (eTGraph x5.1))] [] (.bool x18) [])), ((bif x15 then x16 else false) = true → (Q217 x15 x16) = true)] hn mix (no_hand hΓ) (by kernel_rfl) ⟨(ok_graph_Order x4.1 a_p2 x13 hx13), (ok_lockstepref06_Order x5.1 a_p2 x14 hx14), (ok_lockstepref02_Ints x13 x14 x15 hx15), (fun hg => hg), (fun hg => hg), (fun hg => hg), (fun hg => hg), (fun hg => hg), (fun hg => hg), (fun hg => (ok_lockstepref06_Same x12 (⟨x5.1.Pred, x5.1.Succ⟩ : TGraph) x16 (cond_t hg hx16))), gT, (fun hg => hg), (fun hg => (ok_graph_Turned x12 x17 (cond_t hg hx17))), (fun hg => hg), (fun hg => hg), (fun hg => (ok_lockstepref06_Same x17 x5.1 x18 (cond_t hg hx18))), gT, trivial⟩ ?_
          refine awp_ret ?_
          obtain rfl := Option.some.inj h
          exact ⟨.inl rfl, [], by kernel_rfl⟩

noncomputable def m_lockstepref06_Reach_L1 (a_g : TGraph) (a_p2 : Int) (i6 : Int) : (Int × List (Bool)) → Option (LR (Int × List (Bool)) (List (Bool))) :=
  fun ((i9, l10) : (Int × List (Bool))) => (chk (InB i6 l10.length) (chk (((l10.getD (i6).toNat false) == true) = true → (InB i6 a_g.Succ.length)) (bif (bif (l10.getD (i6).toNat false) then (decide ((i9 : Int) < ((a_g.Succ.getD (i6).toNat []).length : Int))) else false) then (Option.bind (α := List (Bool)) (chk (InB i6 a_g.Succ.length) (chk (InB i9 (a_g.Succ.getD (i6).toNat []).length) (bif ((((a_g.Succ.getD (i6).toNat []).getD (i9).toNat (0 : Int)) : Int) != a_p2) then (chk (InB i6 a_g.Succ.length) (chk (InB i9 (a_g.Succ.getD (i6).toNat []).length) (chk (InB ((a_g.Succ.getD (i6).toNat []).getD (i9).toNat (0 : Int)) l10.length) (some ((l10.set (((a_g.Succ.getD (i6).toNat []).getD (i9).toNat (0 : Int))).toNat true)))))) else (some (l10))))) (fun x20 => ((some (.next ((w64 (i9 + (1 : Int))), x20)))))) else (some (.done l10)))))
noncomputable def m_lockstepref06_Reach_L2 (a_g : TGraph) (a_p2 : Int) : (Int × List (Bool)) → Option (LR (Int × List (Bool)) (List (Bool))) :=
  fun ((i6, l7) : (Int × List (Bool))) => (bif (decide ((i6 : Int) < (l7.length : Int))) then ((loopO (S := (Int × List (Bool))) (X := List (Bool)) (m_lockstepref06_Reach_L1 a_g a_p2 i6) ((0 : Int), l7)).bind (fun x22 => ((some (.next ((w64 (i6 + (1 : Int))), x22)))))) else (some (.done l7)))
noncomputable def m_lockstepref06_Reach_L3 (a_g : TGraph) (a_p2 : Int) : (Int × List (Bool)) → Option (LR (Int × List (Bool)) (List (Bool))) :=
  fun ((i3, l4) : (Int × List (Bool))) => (bif (decide ((i3 : Int) < (l4.length : Int))) then ((loopO (S := (Int × List (Bool))) (X := List (Bool)) (m_lockstepref06_Reach_L2 a_g a_p2) ((0 : Int), l4)).bind (fun x24 => ((some (.next ((w64 (i3 + (1 : Int))), x24)))))) else (some (.done l4)))
noncomputable def Q228 (a_p2 : Int) : AV := (.int .i64 a_p2)
noncomputable def Q231 (a_g : TGraph) := (a_g.Succ.length : Int)
noncomputable def Q221 (a_g : TGraph) := (List.replicate ((Q231 a_g)).toNat false)
noncomputable def Q230 (a_g : TGraph) (a_p1 : Int) := ((Q221 a_g).set (a_p1).toNat true)
noncomputable def Q222 (l10 : List (Bool)) (i6 : Int) := ((l10.getD (i6).toNat false) == true)
noncomputable def Q229 (a_g : TGraph) := (fun i => eB ((Q221 a_g).getD i false))
noncomputable def Q224 (a_g : TGraph) (i6 : Int) (i9 : Int) := ((a_g.Succ.getD (i6).toNat []).getD (i9).toNat (0 : Int))
noncomputable def Q220 (a_g : TGraph) : List AV := [(AV.list 1 eLI64 [] a_g.Succ .none), (AV.list 1 eLI64 [] a_g.Pred .none)]
noncomputable def Q226 (a_g : TGraph) (l4 : List (Bool)) : List (Nat × Own) := [(3, .row 30 (Q220 a_g)), (14, .arr 1 4 l4.length (fun i => eB (l4.getD i false)))]
noncomputable def Q227 (a_g : TGraph) (l7 : List (Bool)) : List (Nat × Own) := [(3, .row 30 (Q220 a_g)), (14, .arr 1 4 l7.length (fun i => eB (l7.getD i false)))]
noncomputable def Q225 (a_g : TGraph) (l10 : List (Bool)) : List (Nat × Own) := [(3, .row 30 (Q220 a_g)), (14, .arr 1 4 l10.length (fun i => eB (l10.getD i false)))]
noncomputable def Q223 (a_p2 : Int) (l10 : List (Bool)) (i3 : Int) (i6 : Int) (i9 : Int) : List (Nat × AV) := [(2, (Q228 a_p2)), (3, (.ptr 3 0)), (7, (.vsl 14 l10.length)), (8, (.int .i64 i3)), (9, (.int .i64 i6)), (10, (.int .i64 i9))]
noncomputable def m_lockstepref06_Reach (a_g : TGraph) (a_p1 : Int) (a_p2 : Int) : Option (List (Bool)) :=
  (chk (0 ≤ (a_g.Succ.length : Int) ∧ (a_g.Succ.length : Int) ≤ (a_g.Succ.length : Int) ∧ (a_g.Succ.length : Int) ≤ (room : Int)) (bif ((a_p1 : Int) == a_p2) then (some (List.replicate ((a_g.Succ.length : Int)).toNat false)) else (chk (InB a_p1 (List.replicate ((a_g.Succ.length : Int)).toNat false).length) ((loopO (S := (Int × List (Bool))) (X := List (Bool)) (m_lockstepref06_Reach_L3 a_g a_p2) ((0 : Int), ((List.replicate ((a_g.Succ.length : Int)).toNat false).set (a_p1).toNat true))).bind (fun x26 => ((some x26)))))))
theorem ok_lockstepref06_Reach (a_g : TGraph) (a_p1 : Int) (a_p2 : Int) (r : List (Bool)) (h : m_lockstepref06_Reach a_g a_p1 a_p2 = some r) : Spec Try.prog 23 [(.agg (eTGraph a_g)), (.int .i64 a_p1), (.int .i64 a_p2)] [] (AV.list 1 eB false r (.own 20000)) [(20000, .tok 1 4 r.length)] := by
  refine spec_of_awp (fn := Try.f23) Try.func23 rfl rfl (by kernel_rfl) (fun Γ hn hΓ => ?_)
  have hn : Γ.n = 71 := hn
  unfold m_lockstepref06_Reach at h
  refine rgs [] [(6, (AV.list 1 eB false ([] : List Bool) .exact))] (⟨[(1, (.int .i64 a_p1)), (2, (Q228 a_p2)), (3, (.ptr 3 0))], [(3, .row 30 (Q220 a_g))], []⟩ : St) [(AVle (.slice 0 0 (fun _ => []) .exact) (AV.list 1 eB false ([] : List Bool) .exact))] hn mix (no_hand hΓ) (by kernel_rfl) ⟨av_nil, trivial⟩ ?_
  obtain ⟨hc1, h⟩ := chk_some h
  refine rgs [] [] (⟨[(1, (.int .i64 a_p1)), (2, (Q228 a_p2)), (3, (.ptr 3 0)), (7, (.vsl 14 ((Q231 a_g)).toNat))], [(3, .row 30 (Q220 a_g)), (14, .arr 1 4 (((Q231 a_g)).toNat) (fun i_ => AV.eraseAll (fun n_ => memB n_ [3, 14]) ((fun _ => [(.bool false)]) i_)))], []⟩ : St) [(0 ≤ (Q231 a_g) ∧ (Q231 a_g) ≤ (Q231 a_g) ∧ (Q231 a_g) ≤ (room : Int))] hn mix (no_hand hΓ) (by kernel_rfl) ⟨hc1, trivial⟩ ?_
  refine awp_le (Le.trans (le_of (st' := (⟨[(1, (.int .i64 a_p1)), (2, (Q228 a_p2)), (3, (.ptr 3 0)), (7, (.vsl 14 ((Q231 a_g)).toNat))], [(3, .row 30 (Q220 a_g)), (14, .arr 1 4 (((Q231 a_g)).toNat) (Q229 a_g))], []⟩ : St)) (TmpsLe.refl _) (.same (.arr (fun k hk => make_le (e := eB) (d := false) (.cons (AVle.refl _) .nil) _ k (repl_lt hk)) .nil))) (le_eq (congrArg (fun k_ : Nat => (⟨[(1, (.int .i64 a_p1)), (2, (Q228 a_p2)), (3, (.ptr 3 0)), (7, (.vsl 14 k_))], [(3, .row 30 (Q220 a_g)), (14, .arr 1 4 k_ (Q229 a_g))], []⟩ : St)) (show ((Q231 a_g)).toNat = (Q221 a_g).length from (List.length_replicate ..).symm)))) ?_
  refine awp_seq ?_
  refine rgs0 (⟨[(1, (.int .i64 a_p1)), (2, (Q228 a_p2)), (3, (.ptr 3 0)), (7, (.vsl 14 (Q221 a_g).length)), (17, (.bool ((a_p1 : Int) == a_p2)))], [(3, .row 30 (Q220 a_g)), (14, .arr 1 4 ((Q221 a_g).length) (Q229 a_g))], []⟩ : St) hn mix (no_hand hΓ) (by kernel_rfl) ?_
  refine awp_cond ((a_p1 : Int) == a_p2) (by kernel_rfl) (fun hb => ?_) (fun hb => ?_)
  · replace h := cond_t hb h
    clear hb
    refine rgs0 (⟨[(6, (.vsl 14 (Q221 a_g).length))], [(14, .arr 1 4 ((Q221 a_g).length) (Q229 a_g))], []⟩ : St) hn mix (no_hand hΓ) (by kernel_rfl) ?_
    refine awp_le (Le.trans (le_freeze (nm := 14) (sz := 1) (n := ((Q221 a_g).length)) (e := 4) (f := (Q229 a_g)) (g := (Q229 a_g)) rfl ⟨rfl, trivial⟩ (fun _ _ => rfl) (by rw [hΓ]; rfl)) (le_eq (st' := (⟨[(6, (AV.list 1 eB false (Q221 a_g) (.own 14)))], [(14, .tok 1 4 ((Q221 a_g).length))], []⟩ : St)) (by kernel_rfl))) ?_
    refine awp_ret ?_
    refine then_ret ?_
    obtain rfl := Option.some.inj h
    exact ⟨.inl rfl, [(14, 20000)], by kernel_rfl⟩
  · replace h := cond_f hb h
    clear hb
    refine awp_skip ?_
    refine then_normal ?_
    obtain ⟨hc2, h⟩ := chk_some h
    refine rgs [] [] (⟨[(2, (Q228 a_p2)), (3, (.ptr 3 0)), (7, (.vsl 14 (Q221 a_g).length))], [(3, .row 30 (Q220 a_g)), (14, .arr 1 4 ((Q221 a_g).length) (fun i_ => AV.eraseAll (fun n_ => memB n_ [3, 14]) ((putF (Q229 a_g) (a_p1).toNat 0 [(.bool true)]) i_)))], []⟩ : St) [(InB a_p1 (Q221 a_g).length), ((Q221 a_g).length = (Q221 a_g).length)] hn mix (no_hand hΓ) (by kernel_rfl) ⟨hc2, rfl, trivial⟩ ?_
    refine awp_le (Le.trans (le_of (st' := (⟨[(2, (Q228 a_p2)), (3, (.ptr 3 0)), (7, (.vsl 14 (Q221 a_g).length))], [(3, .row 30 (Q220 a_g)), (14, .arr 1 4 ((Q221 a_g).length) (fun i => eB ((Q230 a_g a_p1).getD i false)))], []⟩ : St)) (TmpsLe.refl _) (.same (.arr (leL_of_eq (List.length_set ..).symm (fun k_ hk_ => (congrArg (AV.eraseAll (fun n_ => memB n_ [3, 14])) ((putF_set (fun _ _ => rfl) (inB_lt0 hc2) rfl) k_ hk_)).trans rfl)) .nil))) (le_eq (congrArg (fun k_ : Nat => (⟨[(2, (Q228 a_p2)), (3, (.ptr 3 0)), (7, (.vsl 14 k_))], [(3, .row 30 (Q220 a_g)), (14, .arr 1 4 k_ (fun i => eB ((Q230 a_g a_p1).getD i false)))], []⟩ : St)) (show (Q221 a_g).length = (Q230 a_g a_p1).length from (List.length_set ..).symm)))) ?_
    refine awp_seq ?_
    refine rgs0 (⟨[(2, (Q228 a_p2)), (3, (.ptr 3 0)), (7, (.vsl 14 (Q230 a_g a_p1).length)), (8, (.int .i64 (0 : Int)))], [(3, .row 30 (Q220 a_g)), (14, .arr 1 4 ((Q230 a_g a_p1).length) (fun i => eB ((Q230 a_g a_p1).getD i false)))], []⟩ : St) hn mix (no_hand hΓ) (by kernel_rfl) ?_
    refine awp_block ?_
    refine awp_le (st' := (fun ((i3, l4) : (Int × List (Bool))) => (⟨[(2, (Q228 a_p2)), (3, (.ptr 3 0)), (7, (.vsl 14 l4.length)), (8, (.int .i64 i3))], (Q226 a_g l4), []⟩ : St)) ((0 : Int), (Q230 a_g a_p1))) (Le.refl _ _) ?_
    obtain ⟨x26, hx26, h⟩ := bind_some h
    refine awp_loop (fun ((i3, l4) : (Int × List (Bool))) => (⟨[(2, (Q228 a_p2)), (3, (.ptr 3 0)), (7, (.vsl 14 l4.length)), (8, (.int .i64 i3))], (Q226 a_g l4), []⟩ : St)) _ (fun (l5 : List (Bool)) (e : Exit) (st : St) => e = (.exit 0) ∧ Le Γ st (⟨[(7, (.vsl 14 l5.length))], [(14, .arr 1 4 l5.length (fun i => eB (l5.getD i false)))], []⟩ : St)) ?_ hx26 ?_
    · rintro ⟨i3, l4⟩ y h
      unfold m_lockstepref06_Reach_L3 at h
      refine awp_seq ?_
      refine rgs0 (⟨[(2, (Q228 a_p2)), (3, (.ptr 3 0)), (7, (.vsl 14 l4.length)), (8, (.int .i64 i3)), (25, (.bool (decide ((i3 : Int) < (l4.length : Int)))))], (Q226 a_g l4), []⟩ : St) hn mix (no_hand hΓ) (by kernel_rfl) ?_
      refine awp_cond (decide ((i3 : Int) < (l4.length : Int))) (by kernel_rfl) (fun hb => ?_) (fun hb => ?_)
      · replace h := cond_t hb h
        clear hb
        refine awp_skip ?_
        refine then_normal ?_
        refine awp_seq ?_
        refine awp_block ?_
        refine rgs0 (⟨[(2, (Q228 a_p2)), (3, (.ptr 3 0)), (7, (.vsl 14 l4.length)), (8, (.int .i64 i3)), (9, (.int .i64 (0 : Int)))], (Q226 a_g l4), []⟩ : St) hn mix (no_hand hΓ) (by kernel_rfl) ?_
        refine awp_block ?_
        refine awp_le (st' := (fun ((i6, l7) : (Int × List (Bool))) => (⟨[(2, (Q228 a_p2)), (3, (.ptr 3 0)), (7, (.vsl 14 l7.length)), (8, (.int .i64 i3)), (9, (.int .i64 i6))], (Q227 a_g l7), []⟩ : St)) ((0 : Int), l4)) (Le.refl _ _) ?_
        obtain ⟨x24, hx24, h⟩ := bind_some h
        refine awp_loop (fun ((i6, l7) : (Int × List (Bool))) => (⟨[(2, (Q228 a_p2)), (3, (.ptr 3 0)), (7, (.vsl 14 l7.length)), (8, (.int .i64 i3)), (9, (.int .i64 i6))], (Q227 a_g l7), []⟩ : St)) _ (fun (l8 : List (Bool)) (e : Exit) (st : St) => e = (.exit 2) ∧ Le Γ st (⟨[(2, (Q228 a_p2)), (3, (.ptr 3 0)), (7, (.vsl 14 l8.length)), (8, (.int .i64 i3))], [(3, .row 30 (Q220 a_g)), (14, .arr 1 4 l8.length (fun i => eB (l8.getD i false)))], []⟩ : St)) ?_ hx24 ?_
        · rintro ⟨i6, l7⟩ y h
          unfold m_lockstepref06_Reach_L2 at h
          refine awp_seq ?_
          refine rgs0 (⟨[(2, (Q228 a_p2)), (3, (.ptr 3 0)), (7, (.vsl 14 l7.length)), (8, (.int .i64 i3)), (9, (.int .i64 i6)), (31, (.bool (decide ((i6 : Int) < (l7.length : Int)))))], (Q227 a_g l7), []⟩ : St) hn mix (no_hand hΓ) (by kernel_rfl) ?_
          refine awp_cond (decide ((i6 : Int) < (l7.length : Int))) (by kernel_rfl) (fun hb => ?_) (fun hb => ?_)
          · replace h := cond_t hb h
            clear hb
            refine awp_skip ?_
            refine then_normal ?_
            refine awp_seq ?_
            refine awp_block ?_
            refine rgs0 (⟨[(2, (Q228 a_p2)), (3, (.ptr 3 0)), (7, (.vsl 14 l7.length)), (8, (.int .i64 i3)), (9, (.int .i64 i6)), (10, (.int .i64 (0 : Int)))], (Q227 a_g l7), []⟩ : St) hn mix (no_hand hΓ) (by kernel_rfl) ?_
            refine awp_block ?_
            refine awp_le (st' := (fun ((i9, l10) : (Int × List (Bool))) => (⟨(Q223 a_p2 l10 i3 i6 i9), (Q225 a_g l10), []⟩ : St)) ((0 : Int), l7)) (Le.refl _ _) ?_
            obtain ⟨x22, hx22, h⟩ := bind_some h
            refine awp_loop (fun ((i9, l10) : (Int × List (Bool))) => (⟨(Q223 a_p2 l10 i3 i6 i9), (Q225 a_g l10), []⟩ : St)) _ (fun (l11 : List (Bool)) (e : Exit) (st : St) => e = (.exit 4) ∧ Le Γ st (⟨[(2, (Q228 a_p2)), (3, (.ptr 3 0)), (7, (.vsl 14 l11.length)), (8, (.int .i64 i3)), (9, (.int .i64 i6))], [(3, .row 30 (Q220 a_g)), (14, .arr 1 4 l11.length (fun i => eB (l11.getD i false)))], []⟩ : St)) ?_ hx22 ?_
            · rintro ⟨i9, l10⟩ y h
              unfold m_lockstepref06_Reach_L1 at h
              refine awp_seq ?_
              obtain ⟨hc12, h⟩ := chk_some h
              obtain ⟨hc13, h⟩ := chk_some h
              refine rgs [] [] (⟨[(2, (Q228 a_p2)), (3, (.ptr 3 0)), (7, (.vsl 14 l10.length)), (8, (.int .i64 i3)), (9, (.int .i64 i6)), (10, (.int .i64 i9)), (47, (.bool (bif (l10.getD (i6).toNat false) then (decide ((i9 : Int) < ((a_g.Succ.getD (i6).toNat []).length : Int))) else false)))], (Q225 a_g l10), []⟩ : St) [(InB i6 l10.length), (l10.length = l10.length), ((Q222 l10 i6) = true → (Q222 l10 i6) = true), ((Q222 l10 i6) = true → (Q222 l10 i6) = true), ((Q222 l10 i6) = true → (Q222 l10 i6) = true), ((Q222 l10 i6) = true → (InB i6 a_g.Succ.length)), ((Q222 l10 i6) = true → (Q222 l10 i6) = true), ((Q222 l10 i6) = true → (Q222 l10 i6) = true), ((Q222 l10 i6) = true → (Q222 l10 i6) = true), ((Q222 l10 i6) = true → (Q222 l10 i6) = true), ((l10.getD (i6).toNat false) = true → (Q222 l10 i6) = true)] hn mix (no_hand hΓ) (by kernel_rfl) ⟨hc12, rfl, (fun hg => hg), (fun hg => hg), (fun hg => hg), (fun hg => (hc13 hg)), (fun hg => hg), (fun hg => hg), (fun hg => hg), (fun hg => hg), gT, trivial⟩ ?_
              refine awp_cond (bif (l10.getD (i6).toNat false) then (decide ((i9 : Int) < ((a_g.Succ.getD (i6).toNat []).length : Int))) else false) (by kernel_rfl) (fun hb => ?_) (fun hb => ?_)
              · replace h := cond_t hb h
                clear hb
                refine awp_skip ?_
                refine then_normal ?_
                refine awp_seq ?_
                obtain ⟨x20, hx20, h⟩ := bind_some h
                refine awp_join (fun (l14 : List (Bool)) (e : Exit) (st : St) => e = .normal ∧ Le Γ st (⟨[(2, (Q228 a_p2)), (3, (.ptr 3 0)), (7, (.vsl 14 l14.length)), (8, (.int .i64 i3)), (9, (.int .i64 i6)), (10, (.int .i64 i9))], [(3, .row 30 (Q220 a_g)), (14, .arr 1 4 l14.length (fun i => eB (l14.getD i false)))], []⟩ : St)) hx20 ?_ ?_
                · clear h hx20
                  intro y h
                  refine awp_block ?_
                  obtain ⟨hc15, h⟩ := chk_some h
                  obtain ⟨hc16, h⟩ := chk_some h
                  refine rgs [] [] (⟨[(2, (Q228 a_p2)), (3, (.ptr 3 0)), (7, (.vsl 14 l10.length)), (8, (.int .i64 i3)), (9, (.int .i64 i6)), (10, (.int .i64 i9)), (59, (.bool (((Q224 a_g i6 i9) : Int) != a_p2)))], (Q225 a_g l10), []⟩ : St) [(InB i6 a_g.Succ.length), (InB i9 (a_g.Succ.getD (i6).toNat []).length)] hn mix (no_hand hΓ) (by kernel_rfl) ⟨hc15, hc16, trivial⟩ ?_
                  refine awp_cond (((Q224 a_g i6 i9) : Int) != a_p2) (by kernel_rfl) (fun hb => ?_) (fun hb => ?_)
                  · replace h := cond_t hb h
                    clear hb
                    obtain ⟨hc17, h⟩ := chk_some h
                    obtain ⟨hc18, h⟩ := chk_some h
                    obtain ⟨hc19, h⟩ := chk_some h
                    refine rg [] [] (⟨(Q223 a_p2 l10 i3 i6 i9), [(3, .row 30 (Q220 a_g)), (14, .arr 1 4 l10.length (fun i_ => AV.eraseAll (fun n_ => memB n_ [3, 14]) ((putF (fun i => eB (l10.getD i false)) ((Q224 a_g i6 i9)).toNat 0 [(.bool true)]) i_)))], []⟩ : St) [(InB i6 a_g.Succ.length), (InB i9 (a_g.Succ.getD (i6).toNat []).length), (InB (Q224 a_g i6 i9) l10.length), (l10.length = l10.length)] hn mix (no_hand hΓ) (by kernel_rfl) ⟨hc17, hc18, hc19, rfl, trivial⟩ ?_
                    refine block_normal ?_
                    obtain rfl := Option.some.inj h
                    exact ⟨rfl, Le.trans (Le.trans (le_of (st' := (⟨(Q223 a_p2 l10 i3 i6 i9), [(3, .row 30 (Q220 a_g)), (14, .arr 1 4 l10.length (fun i => eB ((l10.set ((Q224 a_g i6 i9)).toNat true).getD i false)))], []⟩ : St)) (TmpsLe.refl _) (.same (.arr (leL_of_eq (List.length_set ..).symm (fun k_ hk_ => (congrArg (AV.eraseAll (fun n_ => memB n_ [3, 14])) ((putF_set (fun _ _ => rfl) (inB_lt0 hc19) rfl) k_ hk_)).trans rfl)) .nil))) (le_eq (congrArg (fun k_ : Nat => (⟨[(2, (Q228 a_p2)), (3, (.ptr 3 0)), (7, (.vsl 14 k_)), (8, (.int .i64 i3)), (9, (.int .i64 i6)), (10, (.int .i64 i9))], [(3, .row 30 (Q220 a_g)), (14, .arr 1 4 k_ (fun i => eB ((l10.set ((Q224 a_g i6 i9)).toNat true).getD i false)))], []⟩ : St)) (show l10.length = (l10.set ((Q224 a_g i6 i9)).toNat true).length from (List.length_set ..).symm)))) (Le.refl _ _)⟩
                  · replace h := cond_f hb h
                    clear hb
                    refine awp_skip ?_
                    refine block_normal ?_
                    obtain rfl := Option.some.inj h
                    exact ⟨rfl, le_restrict_eq [2, 3, 7, 8, 9, 10] [3, 14] (by kernel_rfl) (no_hand hΓ)⟩
                · clear hx20
                  rintro e st' ⟨rfl, hl21⟩
                  refine then_normal ?_
                  refine awp_le hl21 ?_
                  refine rg0 (⟨[(2, (Q228 a_p2)), (3, (.ptr 3 0)), (7, (.vsl 14 x20.length)), (8, (.int .i64 i3)), (9, (.int .i64 i6)), (10, (.int .i64 (w64 (i9 + (1 : Int)))))], [(3, .row 30 (Q220 a_g)), (14, .arr 1 4 x20.length (fun i => eB (x20.getD i false)))], []⟩ : St) hn mix (no_hand hΓ) (by kernel_rfl) ?_
                  obtain rfl := Option.some.inj h
                  exact ⟨rfl, Le.refl _ _⟩
              · replace h := cond_f hb h
                clear hb
                refine awp_exit ?_
                refine then_exit ?_
                obtain rfl := Option.some.inj h
                exact ⟨(by intro hh; cases hh), rfl, le_restrict_eq [2, 3, 7, 8, 9] [3, 14] (by kernel_rfl) (no_hand hΓ)⟩
            · clear hx22
              rintro e st' ⟨rfl, hl23⟩
              refine block_here ?_
              refine block_normal ?_
              refine then_normal ?_
              refine awp_le hl23 ?_
              refine rg0 (⟨[(2, (Q228 a_p2)), (3, (.ptr 3 0)), (7, (.vsl 14 x22.length)), (8, (.int .i64 i3)), (9, (.int .i64 (w64 (i6 + (1 : Int)))))], [(3, .row 30 (Q220 a_g)), (14, .arr 1 4 x22.length (fun i => eB (x22.getD i false)))], []⟩ : St) hn mix (no_hand hΓ) (by kernel_rfl) ?_
              obtain rfl := Option.some.inj h
              exact ⟨rfl, Le.refl _ _⟩
          · replace h := cond_f hb h
            clear hb
            refine awp_exit ?_
            refine then_exit ?_
            obtain rfl := Option.some.inj h
            exact ⟨(by intro hh; cases hh), rfl, le_restrict_eq [2, 3, 7, 8] [3, 14] (by kernel_rfl) (no_hand hΓ)⟩
        · clear hx24
          rintro e st' ⟨rfl, hl25⟩
          refine block_here ?_
          refine block_normal ?_
          refine then_normal ?_
          refine awp_le hl25 ?_
          refine rg0 (⟨[(2, (Q228 a_p2)), (3, (.ptr 3 0)), (7, (.vsl 14 x24.length)), (8, (.int .i64 (w64 (i3 + (1 : Int)))))], [(3, .row 30 (Q220 a_g)), (14, .arr 1 4 x24.length (fun i => eB (x24.getD i false)))], []⟩ : St) hn mix (no_hand hΓ) (by kernel_rfl) ?_
          obtain rfl := Option.some.inj h
          exact ⟨rfl, Le.refl _ _⟩
      · replace h := cond_f hb h
        clear hb
        refine awp_exit ?_
        refine then_exit ?_
        obtain rfl := Option.some.inj h
        exact ⟨(by intro hh; cases hh), rfl, le_restrict_eq [7] [14] (by kernel_rfl) (no_hand hΓ)⟩
    · clear hx26
      rintro e st' ⟨rfl, hl27⟩
      refine block_here ?_
      refine then_normal ?_
      refine awp_le hl27 ?_
      refine rgs0 (⟨[(6, (.vsl 14 x26.length))], [(14, .arr 1 4 x26.length (fun i => eB (x26.getD i false)))], []⟩ : St) hn mix (no_hand hΓ) (by kernel_rfl) ?_
      refine awp_le (Le.trans (le_freeze (nm := 14) (sz := 1) (n := x26.length) (e := 4) (f := (fun i => eB (x26.getD i false))) (g := (fun i => eB (x26.getD i false))) rfl ⟨rfl, trivial⟩ (fun _ _ => rfl) (by rw [hΓ]; rfl)) (le_eq (st' := (⟨[(6, (AV.list 1 eB false x26 (.own 14)))], [(14, .tok 1 4 x26.length)], []⟩ : St)) (by kernel_rfl))) ?_
      refine awp_ret ?_
      obtain rfl := Option.some.inj h
      exact ⟨.inl rfl, [(14, 20000)], by kernel_rfl⟩

noncomputable def m_locksteplaw06_GraphReaches_L1 (a_succ : List (List (Int))) (x6 : List (Int)) (x7 : List (Bool)) : (Int × List (Int)) → Option (LR (Int × List (Int)) (List (Int) ⊕ Bool)) :=
  fun ((i9, l10) : (Int × List (Int))) => (bif (decide ((i9 : Int) < (x6.length : Int))) then (chk (InB i9 x6.length) (chk (((decide (((x6.getD (i9).toNat (0 : Int)) : Int) < (0 : Int))) == false) = true → (InB i9 x6.length)) (chk (((bif (decide (((x6.getD (i9).toNat (0 : Int)) : Int) < (0 : Int))) then true else (decide (((a_succ.length : Int) : Int) ≤ (x6.getD (i9).toNat (0 : Int))))) == false) = true → (InB i9 x6.length)) (chk (((bif (decide (((x6.getD (i9).toNat (0 : Int)) : Int) < (0 : Int))) then true else (decide (((a_succ.length : Int) : Int) ≤ (x6.getD (i9).toNat (0 : Int))))) == false) = true → (InB (x6.getD (i9).toNat (0 : Int)) l10.length)) (chk (((bif (bif (decide (((x6.getD (i9).toNat (0 : Int)) : Int) < (0 : Int))) then true else (decide (((a_succ.length : Int) : Int) ≤ (x6.getD (i9).toNat (0 : Int))))) then true else (((l10.getD ((x6.getD (i9).toNat (0 : Int))).toNat (0 : Int)) : Int) != (0 : Int))) == false) = true → (InB i9 x6.length)) (chk (((bif (bif (decide (((x6.getD (i9).toNat (0 : Int)) : Int) < (0 : Int))) then true else (decide (((a_succ.length : Int) : Int) ≤ (x6.getD (i9).toNat (0 : Int))))) then true else (((l10.getD ((x6.getD (i9).toNat (0 : Int))).toNat (0 : Int)) : Int) != (0 : Int))) == false) = true → (InB (x6.getD (i9).toNat (0 : Int)) x7.length)) (bif (bif (bif (bif (decide (((x6.getD (i9).toNat (0 : Int)) : Int) < (0 : Int))) then true else (decide (((a_succ.length : Int) : Int) ≤ (x6.getD (i9).toNat (0 : Int))))) then true else (((l10.getD ((x6.getD (i9).toNat (0 : Int))).toNat (0 : Int)) : Int) != (0 : Int))) then true else (!(x7.getD ((x6.getD (i9).toNat (0 : Int))).toNat false))) then (some (.done (.inr false))) else (chk (InB i9 x6.length) (chk (InB (x6.getD (i9).toNat (0 : Int)) l10.length) (some (.next ((w64 (i9 + (1 : Int))), (l10.set ((x6.getD (i9).toNat (0 : Int))).toNat (w64 (i9 + (1 : Int)))))))))))))))) else (some (.done (.inl l10))))
noncomputable def m_locksteplaw06_GraphReaches_L2 (a_succ : List (List (Int))) (i23 : Int) : (Bool × Int) → Option (LR (Bool × Int) Bool) :=
  fun ((b27, i28) : (Bool × Int)) => (chk (InB i23 a_succ.length) (bif (decide ((i28 : Int) < ((a_succ.getD (i23).toNat []).length : Int))) then (chk ((b27 == true) = true → (InB i23 a_succ.length)) (chk ((b27 == true) = true → (InB i28 (a_succ.getD (i23).toNat []).length)) (some (.next ((bif b27 then (decide ((i23 : Int) < ((a_succ.getD (i23).toNat []).getD (i28).toNat (0 : Int)))) else false), (w64 (i28 + (1 : Int)))))))) else (some (.done b27))))
noncomputable def m_locksteplaw06_GraphReaches_L3 (a_succ : List (List (Int))) (x7 : List (Bool)) (l11 : List (Int)) : (Bool × Int) → Option (LR (Bool × Int) (Bool ⊕ Bool)) :=
  fun ((b22, i23) : (Bool × Int)) => (bif (decide ((i23 : Int) < (a_succ.length : Int))) then (chk (InB i23 x7.length) (chk (InB i23 l11.length) (bif ((x7.getD (i23).toNat false) != (decide (((0 : Int) : Int) < (l11.getD (i23).toNat (0 : Int))))) then (some (.done (.inr false))) else ((loopO (S := (Bool × Int)) (X := Bool) (m_locksteplaw06_GraphReaches_L2 a_succ i23) (b22, (0 : Int))).bind (fun x33 => ((some (.next (x33, (w64 (i23 + (1 : Int)))))))))))) else (some (.done (.inl b22))))
noncomputable def m_locksteplaw06_GraphReaches_L4 (a_succ : List (List (Int))) (l11 : List (Int)) (i37 : Int) : Int → Option (LR Int (Unit ⊕ Bool)) :=
  fun (i38 : Int) => (chk (InB i37 a_succ.length) (bif (decide ((i38 : Int) < ((a_succ.getD (i37).toNat []).length : Int))) then (chk (InB i37 l11.length) (chk (((decide (((0 : Int) : Int) < (l11.getD (i37).toNat (0 : Int)))) == true) = true → (InB i37 l11.length)) (chk (((decide (((0 : Int) : Int) < (l11.getD (i37).toNat (0 : Int)))) == true) = true → (InB i37 a_succ.length)) (chk (((decide (((0 : Int) : Int) < (l11.getD (i37).toNat (0 : Int)))) == true) = true → (InB i38 (a_succ.getD (i37).toNat []).length)) (chk (((decide (((0 : Int) : Int) < (l11.getD (i37).toNat (0 : Int)))) == true) = true → (InB ((a_succ.getD (i37).toNat []).getD (i38).toNat (0 : Int)) l11.length)) (bif (bif (decide (((0 : Int) : Int) < (l11.getD (i37).toNat (0 : Int)))) then (decide (((l11.getD (((a_succ.getD (i37).toNat []).getD (i38).toNat (0 : Int))).toNat (0 : Int)) : Int) ≤ (l11.getD (i37).toNat (0 : Int)))) else false) then (some (.done (.inr false))) else (some (.next (w64 (i38 + (1 : Int))))))))))) else (some (.done (.inl ())))))
noncomputable def m_locksteplaw06_GraphReaches_L5 (a_succ : List (List (Int))) (l11 : List (Int)) (b24 : Bool) : Int → Option (LR Int (Unit ⊕ Bool)) :=
  fun (i37 : Int) => (bif (bif (decide ((i37 : Int) < (a_succ.length : Int))) then b24 else false) then ((loopO (S := Int) (X := (Unit ⊕ Bool)) (m_locksteplaw06_GraphReaches_L4 a_succ l11 i37) (0 : Int)).bind (fun x45 => (match x45 with | (.inl _) => (some (.next (w64 (i37 + (1 : Int))))) | (.inr r47) => (some (.done (.inr r47)))))) else (some (.done (.inl ()))))
noncomputable def Q243 (l11 : List (Int)) : AV := (.vsl 46 l11.length)
noncomputable def Q247 (a_succ : List (List (Int))) := (a_succ.length : Int)
noncomputable def Q253 (x6 : List (Int)) (i9 : Int) := (x6.getD (i9).toNat (0 : Int))
noncomputable def Q232 (x6 : List (Int)) (i9 : Int) (a_succ : List (List (Int))) := (bif (decide (((Q253 x6 i9) : Int) < (0 : Int))) then true else (decide (((Q247 a_succ) : Int) ≤ (Q253 x6 i9))))
noncomputable def Q245 (x6 : List (Int)) (i9 : Int) (a_succ : List (List (Int))) := ((Q232 x6 i9 a_succ) == false)
noncomputable def Q238 (a_succ : List (List (Int))) : AV := (AV.list 1 eLI64 [] a_succ .none)
noncomputable def Q241 (x7 : List (Bool)) : AV := (AV.list 1 eB false x7 (.own 43))
noncomputable def Q237 (x6 : List (Int)) : AV := (AV.list 1 eI64 (0 : Int) x6 (.own 40))
noncomputable def Q252 (a_succ : List (List (Int))) := (List.replicate ((Q247 a_succ)).toNat (0 : Int))
noncomputable def Q234 (a_p1 : Int) (a_succ : List (List (Int))) : AV := (.int .i64 (Int.tmod (w64 a_p1) (Q247 a_succ)))
noncomputable def Q236 (l10 : List (Int)) (x6 : List (Int)) (i9 : Int) := (((l10.getD ((Q253 x6 i9)).toNat (0 : Int)) : Int) != (0 : Int))
noncomputable def Q244 (x6 : List (Int)) (i9 : Int) (a_succ : List (List (Int))) (l10 : List (Int)) := ((bif (Q232 x6 i9 a_succ) then true else (Q236 l10 x6 i9)) == false)
noncomputable def Q248 (l10 : List (Int)) (x6 : List (Int)) (i9 : Int) := (l10.set ((Q253 x6 i9)).toNat (w64 (i9 + (1 : Int))))
noncomputable def Q240 (x6 : List (Int)) (i9 : Int) := ((decide (((Q253 x6 i9) : Int) < (0 : Int))) == false)
noncomputable def Q233 (l11 : List (Int)) (i37 : Int) := ((decide (((0 : Int) : Int) < (l11.getD (i37).toNat (0 : Int)))) == true)
noncomputable def Q251 (x3 : (TGraph × Int)) : List AV := [(AV.list 1 eLI64 [] x3.1.Succ .none), (AV.list 1 eLI64 [] x3.1.Pred .none)]
noncomputable def Q239 (x6 : List (Int)) (l11 : List (Int)) : List (Nat × Own) := [(40, .tok 1 3 x6.length), (46, .arr 1 3 l11.length (fun i => eI64 (l11.getD i (0 : Int))))]
noncomputable def Q235 (x6 : List (Int)) (x7 : List (Bool)) (l11 : List (Int)) : List (Nat × Own) := [(40, .tok 1 3 x6.length), (43, .tok 1 4 x7.length), (46, .arr 1 3 l11.length (fun i => eI64 (l11.getD i (0 : Int))))]
noncomputable def Q242 (x6 : List (Int)) (x7 : List (Bool)) (l10 : List (Int)) : List (Nat × Own) := [(40, .tok 1 3 x6.length), (43, .tok 1 4 x7.length), (46, .arr 1 3 l10.length (fun i => eI64 (l10.getD i (0 : Int))))]
noncomputable def Q246 (a_succ : List (List (Int))) (a_p1 : Int) (x6 : List (Int)) (x7 : List (Bool)) (l10 : List (Int)) (i9 : Int) : List (Nat × AV) := [(0, (Q238 a_succ)), (7, (Q234 a_p1 a_succ)), (8, (Q237 x6)), (9, (Q241 x7)), (10, (.vsl 46 l10.length)), (11, (.int .i64 i9))]
noncomputable def Q249 (a_succ : List (List (Int))) (a_p1 : Int) (x6 : List (Int)) (l11 : List (Int)) (b24 : Bool) (i37 : Int) := (⟨[(0, (Q238 a_succ)), (7, (Q234 a_p1 a_succ)), (8, (Q237 x6)), (10, (Q243 l11)), (12, (.bool b24)), (15, (.int .i64 i37))], (Q239 x6 l11), []⟩ : St)
noncomputable def Q250 (l11 : List (Int)) (i37 : Int) (a_succ : List (List (Int))) (i38 : Int) := (bif (decide (((0 : Int) : Int) < (l11.getD (i37).toNat (0 : Int)))) then (decide (((l11.getD (((a_succ.getD (i37).toNat []).getD (i38).toNat (0 : Int))).toNat (0 : Int)) : Int) ≤ (l11.getD (i37).toNat (0 : Int)))) else false)
noncomputable def m_locksteplaw06_GraphReaches (a_succ : List (List (Int))) (a_p1 : Int) : Option Bool :=
  ((m_locksteplaw06_awake).bind fun x1 => (bif (!x1) then (some false) else ((m_lockstepref06_Small a_succ).bind fun x2 => (bif (!x2) then (some true) else ((m_graph_Make a_succ).bind fun x3 => (bif ((x3.2 : Int) != (0 : Int)) then ((m_graph_Order x3.1 (0 : Int)).bind fun x4 => (some (((x4.length : Int) : Int) == (0 : Int)))) else (chk ((a_succ.length : Int) ≠ 0) ((m_graph_Order x3.1 (Int.tmod (w64 a_p1) (a_succ.length : Int))).bind fun x6 => ((m_lockstepref06_Reach x3.1 (Int.tmod (w64 a_p1) (a_succ.length : Int)) (-1 : Int)).bind fun x7 => (chk (0 ≤ (a_succ.length : Int) ∧ (a_succ.length : Int) ≤ (a_succ.length : Int) ∧ (a_succ.length : Int) ≤ (room : Int)) ((loopO (S := (Int × List (Int))) (X := (List (Int) ⊕ Bool)) (m_locksteplaw06_GraphReaches_L1 a_succ x6 x7) ((0 : Int), (List.replicate ((a_succ.length : Int)).toNat (0 : Int)))).bind (fun x20 => (match x20 with | (.inl l11) => ((loopO (S := (Bool × Int)) (X := (Bool ⊕ Bool)) (m_locksteplaw06_GraphReaches_L3 a_succ x7 l11) (true, (0 : Int))).bind (fun x35 => (match x35 with | (.inl b24) => ((loopO (S := Int) (X := (Unit ⊕ Bool)) (m_locksteplaw06_GraphReaches_L5 a_succ l11 b24) (0 : Int)).bind (fun x48 => (match x48 with | (.inl _) => (chk (InB (0 : Int) x6.length) (some (((x6.getD ((0 : Int)).toNat (0 : Int)) : Int) == (Int.tmod (w64 a_p1) (a_succ.length : Int))))) | (.inr r51) => (some r51)))) | (.inr r52) => (some r52)))) | (.inr r53) => (some r53))))))))))))))
theorem ok_locksteplaw06_GraphReaches (a_succ : List (List (Int))) (a_p1 : Int) (r : Bool) (h : m_locksteplaw06_GraphReaches a_succ a_p1 = some r) : Spec Try.prog 5 [(AV.list 1 eLI64 [] a_succ .none), (.int .u8 a_p1)] [] (.bool r) [] := by
  refine spec_of_awp (fn := Try.f5) Try.func5 rfl rfl (by kernel_rfl) (fun Γ hn hΓ => ?_)
  have hn : Γ.n = 177 := hn
  unfold m_locksteplaw06_GraphReaches at h
  refine rgs0 (⟨[(0, (Q238 a_succ)), (1, (.int .u8 a_p1))], [], []⟩ : St) hn mix (no_hand hΓ) (by kernel_rfl) ?_
  refine awp_seq ?_
  obtain ⟨x1, hx1, h⟩ := bind_some h
  refine rgs [⟨[], [], (.bool x1), []⟩] [] (⟨[(0, (Q238 a_succ)), (1, (.int .u8 a_p1)), (18, (.bool (!x1)))], [], []⟩ : St) [(Spec Try.prog 9 [] [] (.bool x1) [])] hn mix (no_hand hΓ) (by kernel_rfl) ⟨(ok_locksteplaw06_awake  x1 hx1), trivial⟩ ?_
  refine awp_cond (!x1) (by kernel_rfl) (fun hb => ?_) (fun hb => ?_)
  · replace h := cond_t hb h
    clear hb
    refine rgs0 (⟨[(4, (.bool false))], [], []⟩ : St) hn mix (no_hand hΓ) (by kernel_rfl) ?_
    refine awp_ret ?_
    refine then_ret ?_
    obtain rfl := Option.some.inj h
    exact ⟨.inl rfl, [], by kernel_rfl⟩
  · replace h := cond_f hb h
    clear hb
    refine awp_skip ?_
    refine then_normal ?_
    refine awp_seq ?_
    obtain ⟨x2, hx2, h⟩ := bind_some h
    refine rgs [⟨[], [], (.bool x2), []⟩] [] (⟨[(0, (Q238 a_succ)), (1, (.int .u8 a_p1)), (21, (.bool (!x2)))], [], []⟩ : St) [(Spec Try.prog 15 [(Q238 a_succ)] [] (.bool x2) [])] hn mix (no_hand hΓ) (by kernel_rfl) ⟨(ok_lockstepref06_Small a_succ x2 hx2), trivial⟩ ?_
    refine awp_cond (!x2) (by kernel_rfl) (fun hb => ?_) (fun hb => ?_)
    · replace h := cond_t hb h
      clear hb
      refine rgs0 (⟨[(4, (.bool true))], [], []⟩ : St) hn mix (no_hand hΓ) (by kernel_rfl) ?_
      refine awp_ret ?_
      refine then_ret ?_
      obtain rfl := Option.some.inj h
      exact ⟨.inl rfl, [], by kernel_rfl⟩
    · replace h := cond_f hb h
      clear hb
      refine awp_skip ?_
      refine then_normal ?_
      obtain ⟨x3, hx3, h⟩ := bind_some h
      refine rgs [⟨[], [], (.tuple [(.agg (eTGraph x3.1)), (.int .i64 x3.2)]), []⟩] [] (⟨[(0, (Q238 a_succ)), (1, (.int .u8 a_p1)), (5, (.ptr 5 0)), (6, (.int .i64 x3.2))], [(5, .row 30 (Q251 x3))], []⟩ : St) [(Spec Try.prog 16 [(Q238 a_succ)] [] (.tuple [(.agg (eTGraph x3.1)), (.int .i64 x3.2)]) [])] hn mix (no_hand hΓ) (by kernel_rfl) ⟨(ok_graph_Make a_succ x3 hx3), trivial⟩ ?_
      refine awp_seq ?_
      refine rgs0 (⟨[(0, (Q238 a_succ)), (1, (.int .u8 a_p1)), (5, (.ptr 5 0)), (28, (.bool ((x3.2 : Int) != (0 : Int))))], [(5, .row 30 (Q251 x3))], []⟩ : St) hn mix (no_hand hΓ) (by kernel_rfl) ?_
      refine awp_cond ((x3.2 : Int) != (0 : Int)) (by kernel_rfl) (fun hb => ?_) (fun hb => ?_)
      · replace h := cond_t hb h
        clear hb
        obtain ⟨x4, hx4, h⟩ := bind_some h
        refine rgs [⟨[], [(20000, 30)], (AV.list 1 eI64 (0 : Int) x4 (.own 20000)), [(20000, .tok 1 3 x4.length)]⟩] [] (⟨[(4, (.bool (((x4.length : Int) : Int) == (0 : Int))))], [], []⟩ : St) [(Spec Try.prog 20 [(.agg (eTGraph x3.1)), (.int .i64 (0 : Int))] [] (AV.list 1 eI64 (0 : Int) x4 (.own 20000)) [(20000, .tok 1 3 x4.length)])] hn mix (no_hand hΓ) (by kernel_rfl) ⟨(ok_graph_Order x3.1 (0 : Int) x4 hx4), trivial⟩ ?_
        refine awp_ret ?_
        refine then_ret ?_
        obtain rfl := Option.some.inj h
        exact ⟨.inl rfl, [], by kernel_rfl⟩
      · replace h := cond_f hb h
        clear hb
        refine awp_skip ?_
        refine then_normal ?_
        obtain ⟨hc5, h⟩ := chk_some h
        refine rgs [] [] (⟨[(0, (Q238 a_succ)), (5, (.ptr 5 0)), (7, (Q234 a_p1 a_succ))], [(5, .row 30 (Q251 x3))], []⟩ : St) [((Q247 a_succ) ≠ 0)] hn mix (no_hand hΓ) (by kernel_rfl) ⟨hc5, trivial⟩ ?_
        obtain ⟨x6, hx6, h⟩ := bind_some h
        refine rgs [⟨[], [(20000, 40)], (AV.list 1 eI64 (0 : Int) x6 (.own 20000)), [(20000, .tok 1 3 x6.length)]⟩] [] (⟨[(0, (Q238 a_succ)), (5, (.ptr 5 0)), (7, (Q234 a_p1 a_succ)), (8, (Q237 x6))], [(5, .row 30 (Q251 x3)), (40, .tok 1 3 x6.length)], []⟩ : St) [(Spec Try.prog 20 [(.agg (eTGraph x3.1)), (Q234 a_p1 a_succ)] [] (AV.list 1 eI64 (0 : Int) x6 (.own 20000)) [(20000, .tok 1 3 x6.length)])] hn mix (no_hand hΓ) (by kernel_rfl) ⟨(ok_graph_Order x3.1 (Int.tmod (w64 a_p1) (Q247 a_succ)) x6 hx6), trivial⟩ ?_
        obtain ⟨x7, hx7, h⟩ := bind_some h
        refine rgs [⟨[], [(20000, 43)], (AV.list 1 eB false x7 (.own 20000)), [(20000, .tok 1 4 x7.length)]⟩] [] (⟨[(0, (Q238 a_succ)), (7, (Q234 a_p1 a_succ)), (8, (Q237 x6)), (9, (Q241 x7))], [(40, .tok 1 3 x6.length), (43, .tok 1 4 x7.length)], []⟩ : St) [(Spec Try.prog 23 [(.agg (eTGraph x3.1)), (Q234 a_p1 a_succ), (.int .i64 (-1 : Int))] [] (AV.list 1 eB false x7 (.own 20000)) [(20000, .tok 1 4 x7.length)])] hn mix (no_hand hΓ) (by kernel_rfl) ⟨(ok_lockstepref06_Reach x3.1 (Int.tmod (w64 a_p1) (Q247 a_succ)) (-1 : Int) x7 hx7), trivial⟩ ?_
        obtain ⟨hc8, h⟩ := chk_some h
        refine rgs [] [] (⟨[(0, (Q238 a_succ)), (7, (Q234 a_p1 a_succ)), (8, (Q237 x6)), (9, (Q241 x7)), (10, (.vsl 46 ((Q247 a_succ)).toNat))], [(40, .tok 1 3 x6.length), (43, .tok 1 4 x7.length), (46, .arr 1 3 (((Q247 a_succ)).toNat) (fun i_ => AV.eraseAll (fun n_ => memB n_ [40, 43, 46]) ((fun _ => [(.int .i64 (0 : Int))]) i_)))], []⟩ : St) [(0 ≤ (Q247 a_succ) ∧ (Q247 a_succ) ≤ (Q247 a_succ) ∧ (Q247 a_succ) ≤ (room : Int))] hn mix (no_hand hΓ) (by kernel_rfl) ⟨hc8, trivial⟩ ?_
        refine awp_le (Le.trans (le_of (st' := (⟨[(0, (Q238 a_succ)), (7, (Q234 a_p1 a_succ)), (8, (Q237 x6)), (9, (Q241 x7)), (10, (.vsl 46 ((Q247 a_succ)).toNat))], [(40, .tok 1 3 x6.length), (43, .tok 1 4 x7.length), (46, .arr 1 3 (((Q247 a_succ)).toNat) (fun i => eI64 ((Q252 a_succ).getD i (0 : Int))))], []⟩ : St)) (TmpsLe.refl _) (.same (.same (.arr (fun k hk => make_le (e := eI64) (d := (0 : Int)) (.cons (AVle.refl _) .nil) _ k (repl_lt hk)) .nil)))) (le_eq (congrArg (fun k_ : Nat => (⟨[(0, (Q238 a_succ)), (7, (Q234 a_p1 a_succ)), (8, (Q237 x6)), (9, (Q241 x7)), (10, (.vsl 46 k_))], [(40, .tok 1 3 x6.length), (43, .tok 1 4 x7.length), (46, .arr 1 3 k_ (fun i => eI64 ((Q252 a_succ).getD i (0 : Int))))], []⟩ : St)) (show ((Q247 a_succ)).toNat = (Q252 a_succ).length from (List.length_replicate ..).symm)))) ?_
        refine awp_seq ?_
        refine rgs0 (⟨[(0, (Q238 a_succ)), (7, (Q234 a_p1 a_succ)), (8, (Q237 x6)), (9, (Q241 x7)), (10, (.vsl 46 (Q252 a_succ).length)), (11, (.int .i64 (0 : Int)))], [(40, .tok 1 3 x6.length), (43, .tok 1 4 x7.length), (46, .arr 1 3 ((Q252 a_succ).length) (fun i => eI64 ((Q252 a_succ).getD i (0 : Int))))], []⟩ : St) hn mix (no_hand hΓ) (by kernel_rfl) ?_
        refine awp_block ?_
        refine awp_le (st' := (fun ((i9, l10) : (Int × List (Int))) => (⟨(Q246 a_succ a_p1 x6 x7 l10 i9), (Q242 x6 x7 l10), []⟩ : St)) ((0 : Int), (Q252 a_succ))) (Le.refl _ _) ?_
        obtain ⟨x20, hx20, h⟩ := bind_some h
        refine awp_loop (fun ((i9, l10) : (Int × List (Int))) => (⟨(Q246 a_succ a_p1 x6 x7 l10 i9), (Q242 x6 x7 l10), []⟩ : St)) _ (fun (x_ : (List (Int) ⊕ Bool)) (e : Exit) (st : St) => match x_ with | (.inl l11) => e = (.exit 0) ∧ Le Γ st (⟨[(0, (Q238 a_succ)), (7, (Q234 a_p1 a_succ)), (8, (Q237 x6)), (9, (Q241 x7)), (10, (Q243 l11))], (Q235 x6 x7 l11), []⟩ : St) | (.inr r_) => e = .ret ∧ retK Try.prog Try.f5.results.toList [] (.bool r_) [] e st) ?_ hx20 ?_
        · rintro ⟨i9, l10⟩ y h
          unfold m_locksteplaw06_GraphReaches_L1 at h
          refine awp_seq ?_
          refine rgs0 (⟨[(0, (Q238 a_succ)), (7, (Q234 a_p1 a_succ)), (8, (Q237 x6)), (9, (Q241 x7)), (10, (.vsl 46 l10.length)), (11, (.int .i64 i9)), (50, (.bool (decide ((i9 : Int) < (x6.length : Int)))))], (Q242 x6 x7 l10), []⟩ : St) hn mix (no_hand hΓ) (by kernel_rfl) ?_
          refine awp_cond (decide ((i9 : Int) < (x6.length : Int))) (by kernel_rfl) (fun hb => ?_) (fun hb => ?_)
          · replace h := cond_t hb h
            clear hb
            refine awp_skip ?_
            refine then_normal ?_
            refine awp_seq ?_
            refine awp_block ?_
            refine awp_seq ?_
            obtain ⟨hc12, h⟩ := chk_some h
            obtain ⟨hc13, h⟩ := chk_some h
            obtain ⟨hc14, h⟩ := chk_some h
            obtain ⟨hc15, h⟩ := chk_some h
            obtain ⟨hc16, h⟩ := chk_some h
            obtain ⟨hc17, h⟩ := chk_some h
            refine rgs [] [] (⟨[(0, (Q238 a_succ)), (7, (Q234 a_p1 a_succ)), (8, (Q237 x6)), (9, (Q241 x7)), (10, (.vsl 46 l10.length)), (11, (.int .i64 i9)), (86, (.bool (bif (bif (Q232 x6 i9 a_succ) then true else (Q236 l10 x6 i9)) then true else (!(x7.getD ((Q253 x6 i9)).toNat false)))))], (Q242 x6 x7 l10), []⟩ : St) [(InB i9 x6.length), ((Q240 x6 i9) = true → (Q240 x6 i9) = true), ((Q240 x6 i9) = true → (Q240 x6 i9) = true), ((Q240 x6 i9) = true → (InB i9 x6.length)), ((Q240 x6 i9) = true → (Q240 x6 i9) = true), ((Q240 x6 i9) = true → (Q240 x6 i9) = true), ((Q240 x6 i9) = true → (Q240 x6 i9) = true), ((Q240 x6 i9) = true → (Q240 x6 i9) = true), ((decide (((Q253 x6 i9) : Int) < (0 : Int))) = false → (Q240 x6 i9) = true), ((Q245 x6 i9 a_succ) = true → (Q245 x6 i9 a_succ) = true), ((Q245 x6 i9 a_succ) = true → (Q245 x6 i9 a_succ) = true), ((Q245 x6 i9 a_succ) = true → (InB i9 x6.length)), ((Q245 x6 i9 a_succ) = true → (Q245 x6 i9 a_succ) = true), ((Q245 x6 i9 a_succ) = true → (Q245 x6 i9 a_succ) = true), ((Q245 x6 i9 a_succ) = true → (Q245 x6 i9 a_succ) = true), ((Q245 x6 i9 a_succ) = true → (InB (Q253 x6 i9) l10.length)), ((Q245 x6 i9 a_succ) = true → (Q245 x6 i9 a_succ) = true), ((Q245 x6 i9 a_succ) = true → (l10.length = l10.length)), ((Q245 x6 i9 a_succ) = true → (Q245 x6 i9 a_succ) = true), ((Q232 x6 i9 a_succ) = false → (Q245 x6 i9 a_succ) = true), ((Q244 x6 i9 a_succ l10) = true → (Q244 x6 i9 a_succ l10) = true), ((Q244 x6 i9 a_succ l10) = true → (Q244 x6 i9 a_succ l10) = true), ((Q244 x6 i9 a_succ l10) = true → (InB i9 x6.length)), ((Q244 x6 i9 a_succ l10) = true → (Q244 x6 i9 a_succ l10) = true), ((Q244 x6 i9 a_succ l10) = true → (Q244 x6 i9 a_succ l10) = true), ((Q244 x6 i9 a_succ l10) = true → (Q244 x6 i9 a_succ l10) = true), ((Q244 x6 i9 a_succ l10) = true → (InB (Q253 x6 i9) x7.length)), ((Q244 x6 i9 a_succ l10) = true → (Q244 x6 i9 a_succ l10) = true), ((Q244 x6 i9 a_succ l10) = true → (Q244 x6 i9 a_succ l10) = true), ((bif (Q232 x6 i9 a_succ) then true else (Q236 l10 x6 i9)) = false → (Q244 x6 i9 a_succ l10) = true)] hn mix (no_hand hΓ) (by kernel_rfl) ⟨hc12, (fun hg => hg), (fun hg => hg), (fun hg => (hc13 hg)), (fun hg => hg), (fun hg => hg), (fun hg => hg), (fun hg => hg), gF, (fun hg => hg), (fun hg => hg), (fun hg => (hc14 hg)), (fun hg => hg), (fun hg => hg), (fun hg => hg), (fun hg => (hc15 hg)), (fun hg => hg), (fun hg => rfl), (fun hg => hg), gF, (fun hg => hg), (fun hg => hg), (fun hg => (hc16 hg)), (fun hg => hg), (fun hg => hg), (fun hg => hg), (fun hg => (hc17 hg)), (fun hg => hg), (fun hg => hg), gF, trivial⟩ ?_
            refine awp_cond (bif (bif (Q232 x6 i9 a_succ) then true else (Q236 l10 x6 i9)) then true else (!(x7.getD ((Q253 x6 i9)).toNat false))) (by kernel_rfl) (fun hb => ?_) (fun hb => ?_)
            · replace h := cond_t hb h
              clear hb
              refine rgs0 (⟨[(4, (.bool false))], [], []⟩ : St) hn mix (no_hand hΓ) (by kernel_rfl) ?_
              refine awp_ret ?_
              refine then_ret ?_
              refine block_ret ?_
              refine then_ret ?_
              obtain rfl := Option.some.inj h
              exact ⟨(by intro hh; cases hh), rfl, ⟨.inl rfl, [], by kernel_rfl⟩⟩
            · replace h := cond_f hb h
              clear hb
              refine awp_skip ?_
              refine then_normal ?_
              obtain ⟨hc18, h⟩ := chk_some h
              obtain ⟨hc19, h⟩ := chk_some h
              refine rg [] [] (⟨(Q246 a_succ a_p1 x6 x7 l10 i9), [(40, .tok 1 3 x6.length), (43, .tok 1 4 x7.length), (46, .arr 1 3 l10.length (fun i_ => AV.eraseAll (fun n_ => memB n_ [40, 43, 46]) ((putF (fun i => eI64 (l10.getD i (0 : Int))) ((Q253 x6 i9)).toNat 0 [(.int .i64 (w64 (i9 + (1 : Int))))]) i_)))], []⟩ : St) [(InB i9 x6.length), (InB (Q253 x6 i9) l10.length), (l10.length = l10.length)] hn mix (no_hand hΓ) (by kernel_rfl) ⟨hc18, hc19, rfl, trivial⟩ ?_
              refine block_normal ?_
              refine then_normal ?_
              refine awp_le (Le.trans (le_of (st' := (⟨(Q246 a_succ a_p1 x6 x7 l10 i9), [(40, .tok 1 3 x6.length), (43, .tok 1 4 x7.length), (46, .arr 1 3 l10.length (fun i => eI64 ((Q248 l10 x6 i9).getD i (0 : Int))))], []⟩ : St)) (TmpsLe.refl _) (.same (.same (.arr (leL_of_eq (List.length_set ..).symm (fun k_ hk_ => (congrArg (AV.eraseAll (fun n_ => memB n_ [40, 43, 46])) ((putF_set (fun _ _ => rfl) (inB_lt0 hc19) rfl) k_ hk_)).trans rfl)) .nil)))) (le_eq (congrArg (fun k_ : Nat => (⟨[(0, (Q238 a_succ)), (7, (Q234 a_p1 a_succ)), (8, (Q237 x6)), (9, (Q241 x7)), (10, (.vsl 46 k_)), (11, (.int .i64 i9))], [(40, .tok 1 3 x6.length), (43, .tok 1 4 x7.length), (46, .arr 1 3 k_ (fun i => eI64 ((Q248 l10 x6 i9).getD i (0 : Int))))], []⟩ : St)) (show l10.length = (Q248 l10 x6 i9).length from (List.length_set ..).symm)))) ?_
              refine rg0 (⟨[(0, (Q238 a_succ)), (7, (Q234 a_p1 a_succ)), (8, (Q237 x6)), (9, (Q241 x7)), (10, (.vsl 46 (Q248 l10 x6 i9).length)), (11, (.int .i64 (w64 (i9 + (1 : Int)))))], [(40, .tok 1 3 x6.length), (43, .tok 1 4 x7.length), (46, .arr 1 3 ((Q248 l10 x6 i9).length) (fun i => eI64 ((Q248 l10 x6 i9).getD i (0 : Int))))], []⟩ : St) hn mix (no_hand hΓ) (by kernel_rfl) ?_
              obtain rfl := Option.some.inj h
              exact ⟨rfl, Le.refl _ _⟩
          · replace h := cond_f hb h
            clear hb
            refine awp_exit ?_
            refine then_exit ?_
            obtain rfl := Option.some.inj h
            exact ⟨(by intro hh; cases hh), rfl, le_restrict_eq [0, 7, 8, 9, 10] [40, 43, 46] (by kernel_rfl) (no_hand hΓ)⟩
        · clear hx20
          rcases x20 with l11 | r53
          · rintro e st' ⟨rfl, hl21⟩
            refine block_here ?_
            refine then_normal ?_
            refine awp_le hl21 ?_
            refine rgs0 (⟨[(0, (Q238 a_succ)), (7, (Q234 a_p1 a_succ)), (8, (Q237 x6)), (9, (Q241 x7)), (10, (Q243 l11)), (12, (.bool true))], (Q235 x6 x7 l11), []⟩ : St) hn mix (no_hand hΓ) (by kernel_rfl) ?_
            refine awp_seq ?_
            refine rgs0 (⟨[(0, (Q238 a_succ)), (7, (Q234 a_p1 a_succ)), (8, (Q237 x6)), (9, (Q241 x7)), (10, (Q243 l11)), (12, (.bool true)), (13, (.int .i64 (0 : Int)))], (Q235 x6 x7 l11), []⟩ : St) hn mix (no_hand hΓ) (by kernel_rfl) ?_
            refine awp_block ?_
            refine awp_le (st' := (fun ((b22, i23) : (Bool × Int)) => (⟨[(0, (Q238 a_succ)), (7, (Q234 a_p1 a_succ)), (8, (Q237 x6)), (9, (Q241 x7)), (10, (Q243 l11)), (12, (.bool b22)), (13, (.int .i64 i23))], (Q235 x6 x7 l11), []⟩ : St)) (true, (0 : Int))) (Le.refl _ _) ?_
            obtain ⟨x35, hx35, h⟩ := bind_some h
            refine awp_loop (fun ((b22, i23) : (Bool × Int)) => (⟨[(0, (Q238 a_succ)), (7, (Q234 a_p1 a_succ)), (8, (Q237 x6)), (9, (Q241 x7)), (10, (Q243 l11)), (12, (.bool b22)), (13, (.int .i64 i23))], (Q235 x6 x7 l11), []⟩ : St)) _ (fun (x_ : (Bool ⊕ Bool)) (e : Exit) (st : St) => match x_ with | (.inl b24) => e = (.exit 2) ∧ Le Γ st (⟨[(0, (Q238 a_succ)), (7, (Q234 a_p1 a_succ)), (8, (Q237 x6)), (10, (Q243 l11)), (12, (.bool b24))], (Q239 x6 l11), []⟩ : St) | (.inr r_) => e = .ret ∧ retK Try.prog Try.f5.results.toList [] (.bool r_) [] e st) ?_ hx35 ?_
            · rintro ⟨b22, i23⟩ y h
              unfold m_locksteplaw06_GraphReaches_L3 at h
              refine awp_seq ?_
              refine rgs0 (⟨[(0, (Q238 a_succ)), (7, (Q234 a_p1 a_succ)), (8, (Q237 x6)), (9, (Q241 x7)), (10, (Q243 l11)), (12, (.bool b22)), (13, (.int .i64 i23)), (98, (.bool (decide ((i23 : Int) < (Q247 a_succ)))))], (Q235 x6 x7 l11), []⟩ : St) hn mix (no_hand hΓ) (by kernel_rfl) ?_
              refine awp_cond (decide ((i23 : Int) < (Q247 a_succ))) (by kernel_rfl) (fun hb => ?_) (fun hb => ?_)
              · replace h := cond_t hb h
                clear hb
                refine awp_skip ?_
                refine then_normal ?_
                refine awp_seq ?_
                refine awp_block ?_
                refine awp_seq ?_
                obtain ⟨hc25, h⟩ := chk_some h
                obtain ⟨hc26, h⟩ := chk_some h
                refine rgs [] [] (⟨[(0, (Q238 a_succ)), (7, (Q234 a_p1 a_succ)), (8, (Q237 x6)), (9, (Q241 x7)), (10, (Q243 l11)), (12, (.bool b22)), (13, (.int .i64 i23)), (110, (.bool ((x7.getD (i23).toNat false) != (decide (((0 : Int) : Int) < (l11.getD (i23).toNat (0 : Int)))))))], (Q235 x6 x7 l11), []⟩ : St) [(InB i23 x7.length), (InB i23 l11.length), (l11.length = l11.length)] hn mix (no_hand hΓ) (by kernel_rfl) ⟨hc25, hc26, rfl, trivial⟩ ?_
                refine awp_cond ((x7.getD (i23).toNat false) != (decide (((0 : Int) : Int) < (l11.getD (i23).toNat (0 : Int))))) (by kernel_rfl) (fun hb => ?_) (fun hb => ?_)
                · replace h := cond_t hb h
                  clear hb
                  refine rgs0 (⟨[(4, (.bool false))], [], []⟩ : St) hn mix (no_hand hΓ) (by kernel_rfl) ?_
                  refine awp_ret ?_
                  refine then_ret ?_
                  refine block_ret ?_
                  refine then_ret ?_
                  obtain rfl := Option.some.inj h
                  exact ⟨(by intro hh; cases hh), rfl, ⟨.inl rfl, [], by kernel_rfl⟩⟩
                · replace h := cond_f hb h
                  clear hb
                  refine awp_skip ?_
                  refine then_normal ?_
                  refine rgs0 (⟨[(0, (Q238 a_succ)), (7, (Q234 a_p1 a_succ)), (8, (Q237 x6)), (9, (Q241 x7)), (10, (Q243 l11)), (12, (.bool b22)), (13, (.int .i64 i23)), (14, (.int .i64 (0 : Int)))], (Q235 x6 x7 l11), []⟩ : St) hn mix (no_hand hΓ) (by kernel_rfl) ?_
                  refine awp_block ?_
                  refine awp_le (st' := (fun ((b27, i28) : (Bool × Int)) => (⟨[(0, (Q238 a_succ)), (7, (Q234 a_p1 a_succ)), (8, (Q237 x6)), (9, (Q241 x7)), (10, (Q243 l11)), (12, (.bool b27)), (13, (.int .i64 i23)), (14, (.int .i64 i28))], (Q235 x6 x7 l11), []⟩ : St)) (b22, (0 : Int))) (Le.refl _ _) ?_
                  obtain ⟨x33, hx33, h⟩ := bind_some h
                  refine awp_loop (fun ((b27, i28) : (Bool × Int)) => (⟨[(0, (Q238 a_succ)), (7, (Q234 a_p1 a_succ)), (8, (Q237 x6)), (9, (Q241 x7)), (10, (Q243 l11)), (12, (.bool b27)), (13, (.int .i64 i23)), (14, (.int .i64 i28))], (Q235 x6 x7 l11), []⟩ : St)) _ (fun (b29 : Bool) (e : Exit) (st : St) => e = (.exit 4) ∧ Le Γ st (⟨[(0, (Q238 a_succ)), (7, (Q234 a_p1 a_succ)), (8, (Q237 x6)), (9, (Q241 x7)), (10, (Q243 l11)), (12, (.bool b29)), (13, (.int .i64 i23))], (Q235 x6 x7 l11), []⟩ : St)) ?_ hx33 ?_
                  · rintro ⟨b27, i28⟩ y h
                    unfold m_locksteplaw06_GraphReaches_L2 at h
                    refine awp_seq ?_
                    obtain ⟨hc30, h⟩ := chk_some h
                    refine rgs [] [] (⟨[(0, (Q238 a_succ)), (7, (Q234 a_p1 a_succ)), (8, (Q237 x6)), (9, (Q241 x7)), (10, (Q243 l11)), (12, (.bool b27)), (13, (.int .i64 i23)), (14, (.int .i64 i28)), (117, (.bool (decide ((i28 : Int) < ((a_succ.getD (i23).toNat []).length : Int)))))], (Q235 x6 x7 l11), []⟩ : St) [(InB i23 a_succ.length)] hn mix (no_hand hΓ) (by kernel_rfl) ⟨hc30, trivial⟩ ?_
                    refine awp_cond (decide ((i28 : Int) < ((a_succ.getD (i23).toNat []).length : Int))) (by kernel_rfl) (fun hb => ?_) (fun hb => ?_)
                    · replace h := cond_t hb h
                      clear hb
                      refine awp_skip ?_
                      refine then_normal ?_
                      refine awp_seq ?_
                      refine awp_block ?_
                      obtain ⟨hc31, h⟩ := chk_some h
                      obtain ⟨hc32, h⟩ := chk_some h
                      refine rg [] [] (⟨[(0, (Q238 a_succ)), (7, (Q234 a_p1 a_succ)), (8, (Q237 x6)), (9, (Q241 x7)), (10, (Q243 l11)), (12, (.bool (bif b27 then (decide ((i23 : Int) < ((a_succ.getD (i23).toNat []).getD (i28).toNat (0 : Int)))) else false))), (13, (.int .i64 i23)), (14, (.int .i64 i28))], (Q235 x6 x7 l11), []⟩ : St) [((b27 == true) = true → (b27 == true) = true), ((b27 == true) = true → (b27 == true) = true), ((b27 == true) = true → (InB i23 a_succ.length)), ((b27 == true) = true → (b27 == true) = true), ((b27 == true) = true → (b27 == true) = true), ((b27 == true) = true → (b27 == true) = true), ((b27 == true) = true → (InB i28 (a_succ.getD (i23).toNat []).length)), ((b27 == true) = true → (b27 == true) = true), ((b27 == true) = true → (b27 == true) = true), ((b27 == true) = true → (b27 == true) = true), (b27 = true → (b27 == true) = true)] hn mix (no_hand hΓ) (by kernel_rfl) ⟨(fun hg => hg), (fun hg => hg), (fun hg => (hc31 hg)), (fun hg => hg), (fun hg => hg), (fun hg => hg), (fun hg => (hc32 hg)), (fun hg => hg), (fun hg => hg), (fun hg => hg), gT, trivial⟩ ?_
                      refine block_normal ?_
                      refine then_normal ?_
                      refine rg0 (⟨[(0, (Q238 a_succ)), (7, (Q234 a_p1 a_succ)), (8, (Q237 x6)), (9, (Q241 x7)), (10, (Q243 l11)), (12, (.bool (bif b27 then (decide ((i23 : Int) < ((a_succ.getD (i23).toNat []).getD (i28).toNat (0 : Int)))) else false))), (13, (.int .i64 i23)), (14, (.int .i64 (w64 (i28 + (1 : Int)))))], (Q235 x6 x7 l11), []⟩ : St) hn mix (no_hand hΓ) (by kernel_rfl) ?_
                      obtain rfl := Option.some.inj h
                      exact ⟨rfl, Le.refl _ _⟩
                    · replace h := cond_f hb h
                      clear hb
                      refine awp_exit ?_
                      refine then_exit ?_
                      obtain rfl := Option.some.inj h
                      exact ⟨(by intro hh; cases hh), rfl, le_restrict_eq [0, 7, 8, 9, 10, 12, 13] [40, 43, 46] (by kernel_rfl) (no_hand hΓ)⟩
                  · clear hx33
                    rintro e st' ⟨rfl, hl34⟩
                    refine block_here ?_
                    refine block_normal ?_
                    refine then_normal ?_
                    refine awp_le hl34 ?_
                    refine rg0 (⟨[(0, (Q238 a_succ)), (7, (Q234 a_p1 a_succ)), (8, (Q237 x6)), (9, (Q241 x7)), (10, (Q243 l11)), (12, (.bool x33)), (13, (.int .i64 (w64 (i23 + (1 : Int)))))], (Q235 x6 x7 l11), []⟩ : St) hn mix (no_hand hΓ) (by kernel_rfl) ?_
                    obtain rfl := Option.some.inj h
                    exact ⟨rfl, Le.refl _ _⟩
              · replace h := cond_f hb h
                clear hb
                refine awp_exit ?_
                refine then_exit ?_
                obtain rfl := Option.some.inj h
                exact ⟨(by intro hh; cases hh), rfl, le_restrict_eq [0, 7, 8, 10, 12] [40, 46] (by kernel_rfl) (no_hand hΓ)⟩
            · clear hx35
              rcases x35 with b24 | r52
              · rintro e st' ⟨rfl, hl36⟩
                refine block_here ?_
                refine then_normal ?_
                refine awp_le hl36 ?_
                refine awp_seq ?_
                refine rgs0 (⟨[(0, (Q238 a_succ)), (7, (Q234 a_p1 a_succ)), (8, (Q237 x6)), (10, (Q243 l11)), (12, (.bool b24)), (15, (.int .i64 (0 : Int)))], (Q239 x6 l11), []⟩ : St) hn mix (no_hand hΓ) (by kernel_rfl) ?_
                refine awp_block ?_
                refine awp_le (st' := (fun (i37 : Int) => (Q249 a_succ a_p1 x6 l11 b24 i37)) (0 : Int)) (Le.refl _ _) ?_
                obtain ⟨x48, hx48, h⟩ := bind_some h
                refine awp_loop (fun (i37 : Int) => (Q249 a_succ a_p1 x6 l11 b24 i37)) _ (fun (x_ : (Unit ⊕ Bool)) (e : Exit) (st : St) => match x_ with | (.inl _) => e = (.exit 6) ∧ Le Γ st (⟨[(7, (Q234 a_p1 a_succ)), (8, (Q237 x6))], [(40, .tok 1 3 x6.length)], []⟩ : St) | (.inr r_) => e = .ret ∧ retK Try.prog Try.f5.results.toList [] (.bool r_) [] e st) ?_ hx48 ?_
                · intro i37 y h
                  unfold m_locksteplaw06_GraphReaches_L5 at h
                  refine awp_seq ?_
                  refine rgs [] [] (⟨[(0, (Q238 a_succ)), (7, (Q234 a_p1 a_succ)), (8, (Q237 x6)), (10, (Q243 l11)), (12, (.bool b24)), (15, (.int .i64 i37)), (138, (.bool (bif (decide ((i37 : Int) < (Q247 a_succ))) then b24 else false)))], (Q239 x6 l11), []⟩ : St) [((decide ((i37 : Int) < (Q247 a_succ))) = true → ((decide ((i37 : Int) < (Q247 a_succ))) == true) = true)] hn mix (no_hand hΓ) (by kernel_rfl) ⟨gT, trivial⟩ ?_
                  refine awp_cond (bif (decide ((i37 : Int) < (Q247 a_succ))) then b24 else false) (by kernel_rfl) (fun hb => ?_) (fun hb => ?_)
                  · replace h := cond_t hb h
                    clear hb
                    refine awp_skip ?_
                    refine then_normal ?_
                    refine awp_seq ?_
                    refine awp_block ?_
                    refine rgs0 (⟨[(0, (Q238 a_succ)), (7, (Q234 a_p1 a_succ)), (8, (Q237 x6)), (10, (Q243 l11)), (12, (.bool b24)), (15, (.int .i64 i37)), (16, (.int .i64 (0 : Int)))], (Q239 x6 l11), []⟩ : St) hn mix (no_hand hΓ) (by kernel_rfl) ?_
                    refine awp_block ?_
                    refine awp_le (st' := (fun (i38 : Int) => (⟨[(0, (Q238 a_succ)), (7, (Q234 a_p1 a_succ)), (8, (Q237 x6)), (10, (Q243 l11)), (12, (.bool b24)), (15, (.int .i64 i37)), (16, (.int .i64 i38))], (Q239 x6 l11), []⟩ : St)) (0 : Int)) (Le.refl _ _) ?_
                    obtain ⟨x45, hx45, h⟩ := bind_some h
                    refine awp_loop (fun (i38 : Int) => (⟨[(0, (Q238 a_succ)), (7, (Q234 a_p1 a_succ)), (8, (Q237 x6)), (10, (Q243 l11)), (12, (.bool b24)), (15, (.int .i64 i37)), (16, (.int .i64 i38))], (Q239 x6 l11), []⟩ : St)) _ (fun (x_ : (Unit ⊕ Bool)) (e : Exit) (st : St) => match x_ with | (.inl _) => e = (.exit 8) ∧ Le Γ st (Q249 a_succ a_p1 x6 l11 b24 i37) | (.inr r_) => e = .ret ∧ retK Try.prog Try.f5.results.toList [] (.bool r_) [] e st) ?_ hx45 ?_
                    · intro i38 y h
                      unfold m_locksteplaw06_GraphReaches_L4 at h
                      refine awp_seq ?_
                      obtain ⟨hc39, h⟩ := chk_some h
                      refine rgs [] [] (⟨[(0, (Q238 a_succ)), (7, (Q234 a_p1 a_succ)), (8, (Q237 x6)), (10, (Q243 l11)), (12, (.bool b24)), (15, (.int .i64 i37)), (16, (.int .i64 i38)), (147, (.bool (decide ((i38 : Int) < ((a_succ.getD (i37).toNat []).length : Int)))))], (Q239 x6 l11), []⟩ : St) [(InB i37 a_succ.length)] hn mix (no_hand hΓ) (by kernel_rfl) ⟨hc39, trivial⟩ ?_
                      refine awp_cond (decide ((i38 : Int) < ((a_succ.getD (i37).toNat []).length : Int))) (by kernel_rfl) (fun hb => ?_) (fun hb => ?_)
                      · replace h := cond_t hb h
                        clear hb
                        refine awp_skip ?_
                        refine then_normal ?_
                        refine awp_seq ?_
                        refine awp_block ?_
                        obtain ⟨hc40, h⟩ := chk_some h
                        obtain ⟨hc41, h⟩ := chk_some h
                        obtain ⟨hc42, h⟩ := chk_some h
                        obtain ⟨hc43, h⟩ := chk_some h
                        obtain ⟨hc44, h⟩ := chk_some h
                        refine rgs [] [] (⟨[(0, (Q238 a_succ)), (7, (Q234 a_p1 a_succ)), (8, (Q237 x6)), (10, (Q243 l11)), (12, (.bool b24)), (15, (.int .i64 i37)), (16, (.int .i64 i38)), (171, (.bool (Q250 l11 i37 a_succ i38)))], (Q239 x6 l11), []⟩ : St) [(InB i37 l11.length), (l11.length = l11.length), ((Q233 l11 i37) = true → (Q233 l11 i37) = true), ((Q233 l11 i37) = true → (Q233 l11 i37) = true), ((Q233 l11 i37) = true → (InB i37 l11.length)), ((Q233 l11 i37) = true → (Q233 l11 i37) = true), ((Q233 l11 i37) = true → (l11.length = l11.length)), ((Q233 l11 i37) = true → (Q233 l11 i37) = true), ((Q233 l11 i37) = true → (Q233 l11 i37) = true), ((Q233 l11 i37) = true → (InB i37 a_succ.length)), ((Q233 l11 i37) = true → (Q233 l11 i37) = true), ((Q233 l11 i37) = true → (Q233 l11 i37) = true), ((Q233 l11 i37) = true → (Q233 l11 i37) = true), ((Q233 l11 i37) = true → (InB i38 (a_succ.getD (i37).toNat []).length)), ((Q233 l11 i37) = true → (Q233 l11 i37) = true), ((Q233 l11 i37) = true → (Q233 l11 i37) = true), ((Q233 l11 i37) = true → (Q233 l11 i37) = true), ((Q233 l11 i37) = true → (InB ((a_succ.getD (i37).toNat []).getD (i38).toNat (0 : Int)) l11.length)), ((Q233 l11 i37) = true → (Q233 l11 i37) = true), ((Q233 l11 i37) = true → (l11.length = l11.length)), ((Q233 l11 i37) = true → (Q233 l11 i37) = true), ((Q233 l11 i37) = true → (Q233 l11 i37) = true), ((decide (((0 : Int) : Int) < (l11.getD (i37).toNat (0 : Int)))) = true → (Q233 l11 i37) = true)] hn mix (no_hand hΓ) (by kernel_rfl) ⟨hc40, rfl, (fun hg => hg), (fun hg => hg), (fun hg => (hc41 hg)), (fun hg => hg), (fun hg => rfl), (fun hg => hg), (fun hg => hg), (fun hg => (hc42 hg)), (fun hg => hg), (fun hg => hg), (fun hg => hg), (fun hg => (hc43 hg)), (fun hg => hg), (fun hg => hg), (fun hg => hg), (fun hg => (hc44 hg)), (fun hg => hg), (fun hg => rfl), (fun hg => hg), (fun hg => hg), gT, trivial⟩ ?_
                        refine awp_cond (Q250 l11 i37 a_succ i38) (by kernel_rfl) (fun hb => ?_) (fun hb => ?_)
                        · replace h := cond_t hb h
                          clear hb
                          refine rgs0 (⟨[(4, (.bool false))], [], []⟩ : St) hn mix (no_hand hΓ) (by kernel_rfl) ?_
                          refine awp_ret ?_
                          refine block_ret ?_
                          refine then_ret ?_
                          obtain rfl := Option.some.inj h
                          exact ⟨(by intro hh; cases hh), rfl, ⟨.inl rfl, [], by kernel_rfl⟩⟩
                        · replace h := cond_f hb h
                          clear hb
                          refine awp_skip ?_
                          refine block_normal ?_
                          refine then_normal ?_
                          refine rg0 (⟨[(0, (Q238 a_succ)), (7, (Q234 a_p1 a_succ)), (8, (Q237 x6)), (10, (Q243 l11)), (12, (.bool b24)), (15, (.int .i64 i37)), (16, (.int .i64 (w64 (i38 + (1 : Int)))))], (Q239 x6 l11), []⟩ : St) hn mix (no_hand hΓ) (by kernel_rfl) ?_
                          obtain rfl := Option.some.inj h
                          exact ⟨rfl, Le.refl _ _⟩
                      · replace h := cond_f hb h
                        clear hb
                        refine awp_exit ?_
                        refine then_exit ?_
                        obtain rfl := Option.some.inj h
                        exact ⟨(by intro hh; cases hh), rfl, le_restrict_eq [0, 7, 8, 10, 12, 15] [40, 46] (by kernel_rfl) (no_hand hΓ)⟩
                    · clear hx45
                      rcases x45 with _ | r47
                      · rintro e st' ⟨rfl, hl46⟩
                        refine block_here ?_
                        refine block_normal ?_
                        refine then_normal ?_
                        refine awp_le hl46 ?_
                        refine rg0 (⟨[(0, (Q238 a_succ)), (7, (Q234 a_p1 a_succ)), (8, (Q237 x6)), (10, (Q243 l11)), (12, (.bool b24)), (15, (.int .i64 (w64 (i37 + (1 : Int)))))], (Q239 x6 l11), []⟩ : St) hn mix (no_hand hΓ) (by kernel_rfl) ?_
                        obtain rfl := Option.some.inj h
                        exact ⟨rfl, Le.refl _ _⟩
                      · rintro e st' ⟨rfl, hk⟩
                        refine block_ret ?_
                        refine block_ret ?_
                        refine then_ret ?_
                        obtain rfl := Option.some.inj h
                        exact ⟨(by intro hh; cases hh), rfl, hk⟩
                  · replace h := cond_f hb h
                    clear hb
                    refine awp_exit ?_
                    refine then_exit ?_
                    obtain rfl := Option.some.inj h
                    exact ⟨(by intro hh; cases hh), rfl, le_restrict_eq [7, 8] [40] (by kernel_rfl) (no_hand hΓ)⟩
                · clear hx48
                  rcases x48 with _ | r51
                  · rintro e st' ⟨rfl, hl49⟩
                    refine block_here ?_
                    refine then_normal ?_
                    refine awp_le hl49 ?_
                    obtain ⟨hc50, h⟩ := chk_some h
                    refine rgs [] [] (⟨[(4, (.bool (((x6.getD ((0 : Int)).toNat (0 : Int)) : Int) == (Int.tmod (w64 a_p1) (Q247 a_succ)))))], [], []⟩ : St) [(InB (0 : Int) x6.length)] hn mix (no_hand hΓ) (by kernel_rfl) ⟨hc50, trivial⟩ ?_
                    refine awp_ret ?_
                    obtain rfl := Option.some.inj h
                    exact ⟨.inl rfl, [], by kernel_rfl⟩
                  · rintro e st' ⟨rfl, hk⟩
                    refine block_ret ?_
                    refine then_ret ?_
                    obtain rfl := Option.some.inj h
                    exact hk
              · rintro e st' ⟨rfl, hk⟩
                refine block_ret ?_
                refine then_ret ?_
                obtain rfl := Option.some.inj h
                exact hk
          · rintro e st' ⟨rfl, hk⟩
            refine block_ret ?_
            refine then_ret ?_
            obtain rfl := Option.some.inj h
            exact hk

noncomputable def m_locksteplaw06_GraphTurned_L1 (x5 : TGraph) (i9 : Int) (x10 : List (Int)) : Int → Option (LR Int (Unit ⊕ Bool)) :=
  fun (i11 : Int) => (bif (decide ((i11 : Int) < (x10.length : Int))) then (chk (InB i11 x10.length) ((m_graph_Order x5 (x10.getD (i11).toNat (0 : Int))).bind fun x13 => ((m_lockstepref06_Has x13 i9).bind fun x14 => (bif (!x14) then (some (.done (.inr false))) else (some (.next (w64 (i11 + (1 : Int))))))))) else (some (.done (.inl ()))))
noncomputable def m_locksteplaw06_GraphTurned_L2 (a_succ : List (List (Int))) (x3 : (TGraph × Int)) (x5 : TGraph) : Int → Option (LR Int (Unit ⊕ Bool)) :=
  fun (i9 : Int) => (bif (decide ((i9 : Int) < (a_succ.length : Int))) then ((m_graph_Order x3.1 i9).bind fun x10 => ((loopO (S := Int) (X := (Unit ⊕ Bool)) (m_locksteplaw06_GraphTurned_L1 x5 i9 x10) (0 : Int)).bind (fun x15 => (match x15 with | (.inl _) => (some (.next (w64 (i9 + (1 : Int))))) | (.inr r17) => (some (.done (.inr r17))))))) else (some (.done (.inl ()))))
noncomputable def Q256 (a_succ : List (List (Int))) : AV := (AV.list 1 eLI64 [] a_succ .none)
noncomputable def Q259 (x10 : List (Int)) : AV := (AV.list 1 eI64 (0 : Int) x10 (.own 55))
noncomputable def Q258 (x3 : (TGraph × Int)) := (((x3.1.Succ.length : Int) : Int) == (0 : Int))
noncomputable def Q257 (a_succ : List (List (Int))) := (decide (((20 : Int) : Int) < (a_succ.length : Int)))
noncomputable def Q260 (x3 : (TGraph × Int)) : List (Nat × Own) := [(3, .row 30 [(AV.list 1 eLI64 [] x3.1.Succ .none), (AV.list 1 eLI64 [] x3.1.Pred .none)])]
noncomputable def Q254 (x3 : (TGraph × Int)) (x5 : TGraph) : List (Nat × Own) := [(3, .row 30 [(AV.list 1 eLI64 [] x3.1.Succ .none), (AV.list 1 eLI64 [] x3.1.Pred .none)]), (5, .row 30 [(AV.list 1 eLI64 [] x5.Succ .none), (AV.list 1 eLI64 [] x5.Pred .none)])]
noncomputable def Q255 (x3 : (TGraph × Int)) (x5 : TGraph) (x10 : List (Int)) : List (Nat × Own) := [(3, .row 30 [(AV.list 1 eLI64 [] x3.1.Succ .none), (AV.list 1 eLI64 [] x3.1.Pred .none)]), (5, .row 30 [(AV.list 1 eLI64 [] x5.Succ .none), (AV.list 1 eLI64 [] x5.Pred .none)]), (55, .tok 1 3 x10.length)]
noncomputable def m_locksteplaw06_GraphTurned (a_succ : List (List (Int))) : Option Bool :=
  ((m_locksteplaw06_awake).bind fun x1 => (bif (!x1) then (some false) else ((bif ((decide (((20 : Int) : Int) < (a_succ.length : Int))) == false) then m_lockstepref06_Small a_succ else some false).bind fun x2 => (bif (bif (decide (((20 : Int) : Int) < (a_succ.length : Int))) then true else (!x2)) then (some true) else ((m_graph_Make a_succ).bind fun x3 => (bif ((x3.2 : Int) != (0 : Int)) then ((bif ((((x3.1.Succ.length : Int) : Int) == (0 : Int)) == true) then m_graph_May x3.1 else some false).bind fun x4 => (some (bif (((x3.1.Succ.length : Int) : Int) == (0 : Int)) then (!x4) else false))) else ((m_graph_Turned x3.1).bind fun x5 => ((m_graph_Turned x5).bind fun x6 => ((m_lockstepref06_Same x6 x3.1).bind fun x7 => ((bif ((!x7) == false) then m_graph_May x5 else some false).bind fun x8 => (bif (bif (!x7) then true else (!x8)) then (some false) else ((loopO (S := Int) (X := (Unit ⊕ Bool)) (m_locksteplaw06_GraphTurned_L2 a_succ x3 x5) (0 : Int)).bind (fun x18 => (match x18 with | (.inl _) => ((m_graph_Order x3.1 (a_succ.length : Int)).bind fun x20 => ((m_lockstepref02_Ints x20 ([] : List Int)).bind fun x21 => (some x21))) | (.inr r22) => (some r22)))))))))))))))
theorem ok_locksteplaw06_GraphTurned (a_succ : List (List (Int))) (r : Bool) (h : m_locksteplaw06_GraphTurned a_succ = some r) : Spec Try.prog 6 [(AV.list 1 eLI64 [] a_succ .none)] [] (.bool r) [] := by
  refine spec_of_awp (fn := Try.f6) Try.func6 rfl rfl (by kernel_rfl) (fun Γ hn hΓ => ?_)
  have hn : Γ.n = 76 := hn
  unfold m_locksteplaw06_GraphTurned at h
  refine rgs0 (⟨[(0, (Q256 a_succ))], [], []⟩ : St) hn mix (no_hand hΓ) (by kernel_rfl) ?_
  refine awp_seq ?_
  obtain ⟨x1, hx1, h⟩ := bind_some h
  refine rgs [⟨[], [], (.bool x1), []⟩] [] (⟨[(0, (Q256 a_succ)), (10, (.bool (!x1)))], [], []⟩ : St) [(Spec Try.prog 9 [] [] (.bool x1) [])] hn mix (no_hand hΓ) (by kernel_rfl) ⟨(ok_locksteplaw06_awake  x1 hx1), trivial⟩ ?_
  refine awp_cond (!x1) (by kernel_rfl) (fun hb => ?_) (fun hb => ?_)
  · replace h := cond_t hb h
    clear hb
    refine rgs0 (⟨[(2, (.bool false))], [], []⟩ : St) hn mix (no_hand hΓ) (by kernel_rfl) ?_
    refine awp_ret ?_
    refine then_ret ?_
    obtain rfl := Option.some.inj h
    exact ⟨.inl rfl, [], by kernel_rfl⟩
  · replace h := cond_f hb h
    clear hb
    refine awp_skip ?_
    refine then_normal ?_
    refine awp_seq ?_
    obtain ⟨x2, hx2, h⟩ := bind_some h
    refine rgs [⟨[], [], (.bool x2), []⟩] [] (⟨[(0, (Q256 a_succ)), (18, (.bool (bif (Q257 a_succ) then true else (!x2))))], [], []⟩ : St) [(((Q257 a_succ) == false) = true → ((Q257 a_succ) == false) = true), (((Q257 a_succ) == false) = true → (Spec Try.prog 15 [(Q256 a_succ)] [] (.bool x2) [])), (((Q257 a_succ) == false) = true → ((Q257 a_succ) == false) = true), ((Q257 a_succ) = false → ((Q257 a_succ) == false) = true)] hn mix (no_hand hΓ) (by kernel_rfl) ⟨(fun hg => hg), (fun hg => (ok_lockstepref06_Small a_succ x2 (cond_t hg hx2))), (fun hg => hg), gF, trivial⟩ ?_
    refine awp_cond (bif (Q257 a_succ) then true else (!x2)) (by kernel_rfl) (fun hb => ?_) (fun hb => ?_)
    · replace h := cond_t hb h
      clear hb
      refine rgs0 (⟨[(2, (.bool true))], [], []⟩ : St) hn mix (no_hand hΓ) (by kernel_rfl) ?_
      refine awp_ret ?_
      refine then_ret ?_
      obtain rfl := Option.some.inj h
      exact ⟨.inl rfl, [], by kernel_rfl⟩
    · replace h := cond_f hb h
      clear hb
      refine awp_skip ?_
      refine then_normal ?_
      obtain ⟨x3, hx3, h⟩ := bind_some h
      refine rgs [⟨[], [], (.tuple [(.agg (eTGraph x3.1)), (.int .i64 x3.2)]), []⟩] [] (⟨[(0, (Q256 a_succ)), (3, (.ptr 3 0)), (4, (.int .i64 x3.2))], (Q260 x3), []⟩ : St) [(Spec Try.prog 16 [(Q256 a_succ)] [] (.tuple [(.agg (eTGraph x3.1)), (.int .i64 x3.2)]) [])] hn mix (no_hand hΓ) (by kernel_rfl) ⟨(ok_graph_Make a_succ x3 hx3), trivial⟩ ?_
      refine awp_seq ?_
      refine rgs0 (⟨[(0, (Q256 a_succ)), (3, (.ptr 3 0)), (25, (.bool ((x3.2 : Int) != (0 : Int))))], (Q260 x3), []⟩ : St) hn mix (no_hand hΓ) (by kernel_rfl) ?_
      refine awp_cond ((x3.2 : Int) != (0 : Int)) (by kernel_rfl) (fun hb => ?_) (fun hb => ?_)
      · replace h := cond_t hb h
        clear hb
        obtain ⟨x4, hx4, h⟩ := bind_some h
        refine rgs [⟨[], [], (.bool x4), []⟩] [] (⟨[(2, (.bool (bif (Q258 x3) then (!x4) else false)))], [], []⟩ : St) [(((Q258 x3) == true) = true → ((Q258 x3) == true) = true), (((Q258 x3) == true) = true → (Spec Try.prog 14 [(.agg (eTGraph x3.1))] [] (.bool x4) [])), (((Q258 x3) == true) = true → ((Q258 x3) == true) = true), ((Q258 x3) = true → ((Q258 x3) == true) = true)] hn mix (no_hand hΓ) (by kernel_rfl) ⟨(fun hg => hg), (fun hg => (ok_graph_May x3.1 x4 (cond_t hg hx4))), (fun hg => hg), gT, trivial⟩ ?_
        refine awp_ret ?_
        refine then_ret ?_
        obtain rfl := Option.some.inj h
        exact ⟨.inl rfl, [], by kernel_rfl⟩
      · replace h := cond_f hb h
        clear hb
        refine awp_skip ?_
        refine then_normal ?_
        obtain ⟨x5, hx5, h⟩ := bind_some h
        refine rgs [⟨[], [], (.agg (eTGraph x5)), []⟩] [] (⟨[(0, (Q256 a_succ)), (3, (.ptr 3 0)), (5, (.ptr 5 0))], (Q254 x3 x5), []⟩ : St) [(Spec Try.prog 22 [(.agg (eTGraph x3.1))] [] (.agg (eTGraph x5)) [])] hn mix (no_hand hΓ) (by kernel_rfl) ⟨(ok_graph_Turned x3.1 x5 hx5), trivial⟩ ?_
        refine awp_seq ?_
        obtain ⟨x6, hx6, h⟩ := bind_some h
        obtain ⟨x7, hx7, h⟩ := bind_some h
        obtain ⟨x8, hx8, h⟩ := bind_some h
        refine rgs [⟨[], [], (.agg (eTGraph x6)), []⟩, ⟨[], [], (.bool x7), []⟩, ⟨[], [], (.bool x8), []⟩] [] (⟨[(0, (Q256 a_succ)), (3, (.ptr 3 0)), (5, (.ptr 5 0)), (46, (.bool (bif (!x7) then true else (!x8))))], (Q254 x3 x5), []⟩ : St) [(Spec Try.prog 22 [(.agg (eTGraph x5))] [] (.agg (eTGraph x6)) []), (Spec Try.prog 13 [(.agg (eTGraph x6)), (.agg (eTGraph x3.1))] [] (.bool x7) []), (((!x7) == false) = true → ((!x7) == false) = true), (((!x7) == false) = true → (Spec Try.prog 14 [(.agg (eTGraph x5))] [] (.bool x8) [])), (((!x7) == false) = true → ((!x7) == false) = true), ((!x7) = false → ((!x7) == false) = true)] hn mix (no_hand hΓ) (by kernel_rfl) ⟨(ok_graph_Turned x5 x6 hx6), (ok_lockstepref06_Same x6 x3.1 x7 hx7), (fun hg => hg), (fun hg => (ok_graph_May x5 x8 (cond_t hg hx8))), (fun hg => hg), gF, trivial⟩ ?_
        refine awp_cond (bif (!x7) then true else (!x8)) (by kernel_rfl) (fun hb => ?_) (fun hb => ?_)
        · replace h := cond_t hb h
          clear hb
          refine rgs0 (⟨[(2, (.bool false))], [], []⟩ : St) hn mix (no_hand hΓ) (by kernel_rfl) ?_
          refine awp_ret ?_
          refine then_ret ?_
          obtain rfl := Option.some.inj h
          exact ⟨.inl rfl, [], by kernel_rfl⟩
        · replace h := cond_f hb h
          clear hb
          refine awp_skip ?_
          refine then_normal ?_
          refine awp_seq ?_
          refine rgs0 (⟨[(0, (Q256 a_succ)), (3, (.ptr 3 0)), (5, (.ptr 5 0)), (6, (.int .i64 (0 : Int)))], (Q254 x3 x5), []⟩ : St) hn mix (no_hand hΓ) (by kernel_rfl) ?_
          refine awp_block ?_
          refine awp_le (st' := (fun (i9 : Int) => (⟨[(0, (Q256 a_succ)), (3, (.ptr 3 0)), (5, (.ptr 5 0)), (6, (.int .i64 i9))], (Q254 x3 x5), []⟩ : St)) (0 : Int)) (Le.refl _ _) ?_
          obtain ⟨x18, hx18, h⟩ := bind_some h
          refine awp_loop (fun (i9 : Int) => (⟨[(0, (Q256 a_succ)), (3, (.ptr 3 0)), (5, (.ptr 5 0)), (6, (.int .i64 i9))], (Q254 x3 x5), []⟩ : St)) _ (fun (x_ : (Unit ⊕ Bool)) (e : Exit) (st : St) => match x_ with | (.inl _) => e = (.exit 0) ∧ Le Γ st (⟨[(0, (Q256 a_succ)), (3, (.ptr 3 0))], (Q260 x3), []⟩ : St) | (.inr r_) => e = .ret ∧ retK Try.prog Try.f6.results.toList [] (.bool r_) [] e st) ?_ hx18 ?_
          · intro i9 y h
            unfold m_locksteplaw06_GraphTurned_L2 at h
            refine awp_seq ?_
            refine rgs0 (⟨[(0, (Q256 a_succ)), (3, (.ptr 3 0)), (5, (.ptr 5 0)), (6, (.int .i64 i9)), (50, (.bool (decide ((i9 : Int) < (a_succ.length : Int)))))], (Q254 x3 x5), []⟩ : St) hn mix (no_hand hΓ) (by kernel_rfl) ?_
            refine awp_cond (decide ((i9 : Int) < (a_succ.length : Int))) (by kernel_rfl) (fun hb => ?_) (fun hb => ?_)
            · replace h := cond_t hb h
              clear hb
              refine awp_skip ?_
              refine then_normal ?_
              refine awp_seq ?_
              refine awp_block ?_
              obtain ⟨x10, hx10, h⟩ := bind_some h
              refine rgs [⟨[], [(20000, 55)], (AV.list 1 eI64 (0 : Int) x10 (.own 20000)), [(20000, .tok 1 3 x10.length)]⟩] [] (⟨[(0, (Q256 a_succ)), (3, (.ptr 3 0)), (5, (.ptr 5 0)), (6, (.int .i64 i9)), (7, (Q259 x10))], (Q255 x3 x5 x10), []⟩ : St) [(Spec Try.prog 20 [(.agg (eTGraph x3.1)), (.int .i64 i9)] [] (AV.list 1 eI64 (0 : Int) x10 (.own 20000)) [(20000, .tok 1 3 x10.length)])] hn mix (no_hand hΓ) (by kernel_rfl) ⟨(ok_graph_Order x3.1 i9 x10 hx10), trivial⟩ ?_
              refine rgs0 (⟨[(0, (Q256 a_succ)), (3, (.ptr 3 0)), (5, (.ptr 5 0)), (6, (.int .i64 i9)), (7, (Q259 x10)), (8, (.int .i64 (0 : Int)))], (Q255 x3 x5 x10), []⟩ : St) hn mix (no_hand hΓ) (by kernel_rfl) ?_
              refine awp_block ?_
              refine awp_le (st' := (fun (i11 : Int) => (⟨[(0, (Q256 a_succ)), (3, (.ptr 3 0)), (5, (.ptr 5 0)), (6, (.int .i64 i9)), (7, (Q259 x10)), (8, (.int .i64 i11))], (Q255 x3 x5 x10), []⟩ : St)) (0 : Int)) (Le.refl _ _) ?_
              obtain ⟨x15, hx15, h⟩ := bind_some h
              refine awp_loop (fun (i11 : Int) => (⟨[(0, (Q256 a_succ)), (3, (.ptr 3 0)), (5, (.ptr 5 0)), (6, (.int .i64 i9)), (7, (Q259 x10)), (8, (.int .i64 i11))], (Q255 x3 x5 x10), []⟩ : St)) _ (fun (x_ : (Unit ⊕ Bool)) (e : Exit) (st : St) => match x_ with | (.inl _) => e = (.exit 2) ∧ Le Γ st (⟨[(0, (Q256 a_succ)), (3, (.ptr 3 0)), (5, (.ptr 5 0)), (6, (.int .i64 i9))], (Q254 x3 x5), []⟩ : St) | (.inr r_) => e = .ret ∧ retK Try.prog Try.f6.results.toList [] (.bool r_) [] e st) ?_ hx15 ?_
              · intro i11 y h
                unfold m_locksteplaw06_GraphTurned_L1 at h
                refine awp_seq ?_
                refine rgs0 (⟨[(0, (Q256 a_succ)), (3, (.ptr 3 0)), (5, (.ptr 5 0)), (6, (.int .i64 i9)), (7, (Q259 x10)), (8, (.int .i64 i11)), (59, (.bool (decide ((i11 : Int) < (x10.length : Int)))))], (Q255 x3 x5 x10), []⟩ : St) hn mix (no_hand hΓ) (by kernel_rfl) ?_
                refine awp_cond (decide ((i11 : Int) < (x10.length : Int))) (by kernel_rfl) (fun hb => ?_) (fun hb => ?_)
                · replace h := cond_t hb h
                  clear hb
                  refine awp_skip ?_
                  refine then_normal ?_
                  refine awp_seq ?_
                  refine awp_block ?_
                  obtain ⟨hc12, h⟩ := chk_some h
                  obtain ⟨x13, hx13, h⟩ := bind_some h
                  obtain ⟨x14, hx14, h⟩ := bind_some h
                  refine rgs [⟨[], [(20000, 67)], (AV.list 1 eI64 (0 : Int) x13 (.own 20000)), [(20000, .tok 1 3 x13.length)]⟩, ⟨[], [], (.bool x14), []⟩] [] (⟨[(0, (Q256 a_succ)), (3, (.ptr 3 0)), (5, (.ptr 5 0)), (6, (.int .i64 i9)), (7, (Q259 x10)), (8, (.int .i64 i11)), (70, (.bool (!x14)))], (Q255 x3 x5 x10), []⟩ : St) [(InB i11 x10.length), (Spec Try.prog 20 [(.agg (eTGraph x5)), (.int .i64 (x10.getD (i11).toNat (0 : Int)))] [] (AV.list 1 eI64 (0 : Int) x13 (.own 20000)) [(20000, .tok 1 3 x13.length)]), (Spec Try.prog 24 [(AV.list 1 eI64 (0 : Int) x13 .none), (.int .i64 i9)] [] (.bool x14) [])] hn mix (no_hand hΓ) (by kernel_rfl) ⟨hc12, (ok_graph_Order x5 (x10.getD (i11).toNat (0 : Int)) x13 hx13), (ok_lockstepref06_Has x13 i9 x14 hx14), trivial⟩ ?_
                  refine awp_cond (!x14) (by kernel_rfl) (fun hb => ?_) (fun hb => ?_)
                  · replace h := cond_t hb h
                    clear hb
                    refine rgs0 (⟨[(2, (.bool false))], [], []⟩ : St) hn mix (no_hand hΓ) (by kernel_rfl) ?_
                    refine awp_ret ?_
                    refine block_ret ?_
                    refine then_ret ?_
                    obtain rfl := Option.some.inj h
                    exact ⟨(by intro hh; cases hh), rfl, ⟨.inl rfl, [], by kernel_rfl⟩⟩
                  · replace h := cond_f hb h
                    clear hb
                    refine awp_skip ?_
                    refine block_normal ?_
                    refine then_normal ?_
                    refine rg0 (⟨[(0, (Q256 a_succ)), (3, (.ptr 3 0)), (5, (.ptr 5 0)), (6, (.int .i64 i9)), (7, (Q259 x10)), (8, (.int .i64 (w64 (i11 + (1 : Int)))))], (Q255 x3 x5 x10), []⟩ : St) hn mix (no_hand hΓ) (by kernel_rfl) ?_
                    obtain rfl := Option.some.inj h
                    exact ⟨rfl, Le.refl _ _⟩
                · replace h := cond_f hb h
                  clear hb
                  refine awp_exit ?_
                  refine then_exit ?_
                  obtain rfl := Option.some.inj h
                  exact ⟨(by intro hh; cases hh), rfl, le_restrict_eq [0, 3, 5, 6] [3, 5] (by kernel_rfl) (no_hand hΓ)⟩
              · clear hx15
                rcases x15 with _ | r17
                · rintro e st' ⟨rfl, hl16⟩
                  refine block_here ?_
                  refine block_normal ?_
                  refine then_normal ?_
                  refine awp_le hl16 ?_
                  refine rg0 (⟨[(0, (Q256 a_succ)), (3, (.ptr 3 0)), (5, (.ptr 5 0)), (6, (.int .i64 (w64 (i9 + (1 : Int)))))], (Q254 x3 x5), []⟩ : St) hn mix (no_hand hΓ) (by kernel_rfl) ?_
                  obtain rfl := Option.some.inj h
                  exact ⟨rfl, Le.refl _ _⟩
                · rintro e st' ⟨rfl, hk⟩
                  refine block_ret ?_
                  refine block_ret ?_
                  refine then_ret ?_
                  obtain rfl := Option.some.inj h
                  exact ⟨(by intro hh; cases hh), rfl, hk⟩
            · replace h := cond_f hb h
              clear hb
              refine awp_exit ?_
              refine then_exit ?_
              obtain rfl := Option.some.inj h
              exact ⟨(by intro hh; cases hh), rfl, le_restrict_eq [0, 3] [3] (by kernel_rfl) (no_hand hΓ)⟩
          · clear hx18
            rcases x18 with _ | r22
            · rintro e st' ⟨rfl, hl19⟩
              refine block_here ?_
              refine then_normal ?_
              refine awp_le hl19 ?_
              obtain ⟨x20, hx20, h⟩ := bind_some h
              obtain ⟨x21, hx21, h⟩ := bind_some h
              refine rgs [⟨[], [(20000, 74)], (AV.list 1 eI64 (0 : Int) x20 (.own 20000)), [(20000, .tok 1 3 x20.length)]⟩, ⟨[], [], (.bool x21), []⟩] [] (⟨[(2, (.bool x21))], [], []⟩ : St) [(Spec Try.prog 20 [(.agg (eTGraph x3.1)), (.int .i64 (a_succ.length : Int))] [] (AV.list 1 eI64 (0 : Int) x20 (.own 20000)) [(20000, .tok 1 3 x20.length)]), (Spec Try.prog 19 [(AV.list 1 eI64 (0 : Int) x20 .none), (.slice 0 0 (fun _ => []) .none)] [] (.bool x21) [])] hn mix (no_hand hΓ) (by kernel_rfl) ⟨(ok_graph_Order x3.1 (a_succ.length : Int) x20 hx20), (Spec.args (.cons (AVle.refl _) (.cons av_nil0 .nil)) (ok_lockstepref02_Ints x20 ([] : List Int) x21 hx21)), trivial⟩ ?_
              refine awp_ret ?_
              obtain rfl := Option.some.inj h
              exact ⟨.inl rfl, [], by kernel_rfl⟩
            · rintro e st' ⟨rfl, hk⟩
              refine block_ret ?_
              refine then_ret ?_
              obtain rfl := Option.some.inj h
              exact hk

noncomputable def m_locksteplaw06_GraphEnds_L1 (a_ends : List (Int)) (a_p1 : List ((Int × Int))) : (Int × List (TBlock)) → Option (LR (Int × List (TBlock)) (List (TBlock))) :=
  fun ((i2, l3) : (Int × List (TBlock))) => (bif (decide ((i2 : Int) < (a_ends.length : Int))) then (chk (InB i2 a_ends.length) (chk ((a_p1.length : Int) ≠ 0) (chk (InB (Int.tmod i2 (a_p1.length : Int)) a_p1.length) (chk ((if (1 : Int) < (w64 ((a_ends.length : Int) - (1 : Int))) then (w64 ((a_ends.length : Int) - (1 : Int))) else (1 : Int)) ≠ 0) (chk ((a_p1.length : Int) ≠ 0) (chk (InB (Int.tmod i2 (a_p1.length : Int)) a_p1.length) (chk ((if (1 : Int) < (w64 ((a_ends.length : Int) - (1 : Int))) then (w64 ((a_ends.length : Int) - (1 : Int))) else (1 : Int)) ≠ 0) (Option.bind (α := Int) (bif (((a_ends.length : Int) : Int) == (1 : Int)) then (some ((0 : Int))) else (some ((Int.tmod (w64 (a_ends.getD (i2).toNat (0 : Int))) (4 : Int))))) (fun x13 => ((Option.bind (α := List (Int)) (bif ((x13 : Int) == (1 : Int)) then (some (([(w64 ((1 : Int) + (Int.tmod (w64 (a_p1.getD ((Int.tmod i2 (a_p1.length : Int))).toNat ((0 : Int), (0 : Int))).1) (if (1 : Int) < (w64 ((a_ends.length : Int) - (1 : Int))) then (w64 ((a_ends.length : Int) - (1 : Int))) else (1 : Int)))))] : List (Int)))) else (some (([] : List Int)))) (fun x16 => ((Option.bind (α := List (Int)) (bif ((x13 : Int) == (2 : Int)) then (some (([(w64 ((1 : Int) + (Int.tmod (w64 (a_p1.getD ((Int.tmod i2 (a_p1.length : Int))).toNat ((0 : Int), (0 : Int))).1) (if (1 : Int) < (w64 ((a_ends.length : Int) - (1 : Int))) then (w64 ((a_ends.length : Int) - (1 : Int))) else (1 : Int))))), (w64 ((1 : Int) + (Int.tmod (w64 (a_p1.getD ((Int.tmod i2 (a_p1.length : Int))).toNat ((0 : Int), (0 : Int))).2) (if (1 : Int) < (w64 ((a_ends.length : Int) - (1 : Int))) then (w64 ((a_ends.length : Int) - (1 : Int))) else (1 : Int)))))] : List (Int)))) else (some (x16))) (fun x19 => ((chk (l3.length + ([(⟨([] : List TPhi), ([(⟨i2, (0 : Int), (0 : Int), (0 : Int), ([] : List Int), (0 : Int)⟩ : TOp)] : List (TOp)), (⟨x13, (0 : Int), x19⟩ : TEnd)⟩ : TBlock)] : List (TBlock)).length ≤ room) (some (.next ((w64 (i2 + (1 : Int))), (l3 ++ ([(⟨([] : List TPhi), ([(⟨i2, (0 : Int), (0 : Int), (0 : Int), ([] : List Int), (0 : Int)⟩ : TOp)] : List (TOp)), (⟨x13, (0 : Int), x19⟩ : TEnd)⟩ : TBlock)] : List (TBlock))))))))))))))))))))))) else (some (.done l3)))
noncomputable def m_locksteplaw06_GraphEnds_L2 (a_ends : List (Int)) (l4 : List (TBlock)) (x24 : (TGraph × Int)) (i26 : Int) : Int → Option (LR Int (Unit ⊕ Bool)) :=
  fun (i27 : Int) => (bif (decide ((i27 : Int) < (a_ends.length : Int))) then (chk (InB i26 l4.length) ((m_lockstepref06_Has ((l4.getD (i26).toNat (default : TBlock)).End.To) i27).bind fun x29 => (chk (InB i26 x24.1.Succ.length) ((m_lockstepref06_Has (x24.1.Succ.getD (i26).toNat []) i27).bind fun x31 => (chk (((x31 != x29) == false) = true → (InB i27 x24.1.Pred.length)) ((bif ((x31 != x29) == false) then m_lockstepref06_Has (x24.1.Pred.getD (i27).toNat []) i26 else some false).bind fun x33 => (bif (bif (x31 != x29) then true else (x33 != x29)) then (some (.done (.inr false))) else (some (.next (w64 (i27 + (1 : Int)))))))))))) else (some (.done (.inl ()))))
noncomputable def m_locksteplaw06_GraphEnds_L3 (a_ends : List (Int)) (l4 : List (TBlock)) (x24 : (TGraph × Int)) : Int → Option (LR Int (Unit ⊕ Bool)) :=
  fun (i26 : Int) => (bif (decide ((i26 : Int) < (a_ends.length : Int))) then ((loopO (S := Int) (X := (Unit ⊕ Bool)) (m_locksteplaw06_GraphEnds_L2 a_ends l4 x24 i26) (0 : Int)).bind (fun x34 => (match x34 with | (.inl _) => (some (.next (w64 (i26 + (1 : Int))))) | (.inr r36) => (some (.done (.inr r36)))))) else (some (.done (.inl ()))))
noncomputable def Q282 := ([] : List TPhi)
noncomputable def Q280 := (default : TBlock)
noncomputable def Q274 : AV := (.int .i64 (0 : Int))
noncomputable def Q279 (a_ends : List (Int)) := (a_ends.length : Int)
noncomputable def Q272 (x31 : Bool) (x29 : Bool) := ((x31 != x29) == false)
noncomputable def Q267 (a_ends : List (Int)) : AV := (.int .i64 (Q279 a_ends))
noncomputable def Q275 : AV := (.slice 0 0 (fun _ => []) .exact)
noncomputable def Q269 (a_ends : List (Int)) : AV := (AV.list 1 eU8 (0 : Int) a_ends .none)
noncomputable def Q271 (x24 : (TGraph × Int)) := (((x24.2 : Int) != (0 : Int)) == false)
noncomputable def Q276 : AV := (AV.list 1 eI64 (0 : Int) ([] : List Int) .exact)
noncomputable def Q264 (i2 : Int) := ([(⟨i2, (0 : Int), (0 : Int), (0 : Int), ([] : List Int), (0 : Int)⟩ : TOp)] : List (TOp))
noncomputable def Q281 (i2 : Int) : AV := (AV.list 6 eTOp (default : TOp) (Q264 i2) .exact)
noncomputable def Q266 (a_p1 : List ((Int × Int))) : AV := (AV.list 2 eA2U8 ((0 : Int), (0 : Int)) a_p1 .none)
noncomputable def Q265 (l3 : List (TBlock)) : List AV := [Q275, Q274, (AV.list 5 eTBlock Q280 l3 (.own 5602))]
noncomputable def Q270 (a_ends : List (Int)) (i2 : Int) : List AV := [(.int .i64 (Int.tmod (w64 (a_ends.getD (i2).toNat (0 : Int))) (4 : Int))), Q274, Q276]
noncomputable def Q277 (l3 : List (TBlock)) (a_ends : List (Int)) (i2 : Int) : List (Nat × Own) := [(6, .row 25 (Q265 l3)), (8, .row 49 (Q270 a_ends i2)), (5602, .tok 5 57 l3.length)]
noncomputable def Q278 (a_ends : List (Int)) (a_p1 : List ((Int × Int))) (i2 : Int) : List (Nat × AV) := [(0, (Q269 a_ends)), (1, (Q266 a_p1)), (5, (Q267 a_ends)), (6, (.ptr 6 0)), (7, (.int .i64 i2)), (8, (.ptr 8 0))]
noncomputable def Q283 (x24 : (TGraph × Int)) := (bif ((x24.2 : Int) != (0 : Int)) then true else ((((x24.1.Pred.getD ((0 : Int)).toNat []).length : Int) : Int) != (0 : Int)))
noncomputable def Q268 (a_ends : List (Int)) := (bif (decide (((Q279 a_ends) : Int) < (1 : Int))) then true else (decide (((64 : Int) : Int) < (Q279 a_ends))))
noncomputable def Q261 (a_p1 : List ((Int × Int))) (i2 : Int) (a_ends : List (Int)) := (w64 ((1 : Int) + (Int.tmod (w64 (a_p1.getD ((Int.tmod i2 (a_p1.length : Int))).toNat ((0 : Int), (0 : Int))).1) (if (1 : Int) < (w64 ((Q279 a_ends) - (1 : Int))) then (w64 ((Q279 a_ends) - (1 : Int))) else (1 : Int)))))
noncomputable def Q263 (a_p1 : List ((Int × Int))) (i2 : Int) (a_ends : List (Int)) := (w64 ((1 : Int) + (Int.tmod (w64 (a_p1.getD ((Int.tmod i2 (a_p1.length : Int))).toNat ((0 : Int), (0 : Int))).2) (if (1 : Int) < (w64 ((Q279 a_ends) - (1 : Int))) then (w64 ((Q279 a_ends) - (1 : Int))) else (1 : Int)))))
noncomputable def Q273 (a_ends : List (Int)) (a_p1 : List ((Int × Int))) (i2 : Int) : List (Nat × AV) := [(0, (Q269 a_ends)), (1, (Q266 a_p1)), (5, (Q267 a_ends)), (6, (.ptr 6 0)), (7, (.int .i64 i2)), (8, (.ptr 8 0)), (9, (.int .i64 (Q261 a_p1 i2 a_ends))), (10, (.int .i64 (Q263 a_p1 i2 a_ends)))]
noncomputable def Q262 (x22 : List (TBlock)) (x24 : (TGraph × Int)) : List (Nat × Own) := [(6, .row 25 [Q275, Q274, (AV.list 5 eTBlock Q280 x22 (.own 5602))]), (11, .row 30 [(AV.list 1 eLI64 [] x24.1.Succ .none), (AV.list 1 eLI64 [] x24.1.Pred .none)]), (5602, .tok 5 57 x22.length)]
noncomputable def m_locksteplaw06_GraphEnds (a_ends : List (Int)) (a_p1 : List ((Int × Int))) : Option Bool :=
  ((m_locksteplaw06_awake).bind fun x1 => (bif (!x1) then (some false) else (bif (bif (bif (decide (((a_ends.length : Int) : Int) < (1 : Int))) then true else (decide (((64 : Int) : Int) < (a_ends.length : Int)))) then true else (((a_p1.length : Int) : Int) == (0 : Int))) then (some true) else ((loopO (S := (Int × List (TBlock))) (X := List (TBlock)) (m_locksteplaw06_GraphEnds_L1 a_ends a_p1) ((0 : Int), ([] : List TBlock))).bind (fun x22 => (((m_graph_Of (⟨([] : List Int), (0 : Int), x22⟩ : TFunc)).bind fun x24 => (chk ((((x24.2 : Int) != (0 : Int)) == false) = true → (InB (0 : Int) x24.1.Pred.length)) (bif (bif ((x24.2 : Int) != (0 : Int)) then true else ((((x24.1.Pred.getD ((0 : Int)).toNat []).length : Int) : Int) != (0 : Int))) then (some false) else ((loopO (S := Int) (X := (Unit ⊕ Bool)) (m_locksteplaw06_GraphEnds_L3 a_ends x22 x24) (0 : Int)).bind (fun x37 => (match x37 with | (.inl _) => (some true) | (.inr r39) => (some r39)))))))))))))
theorem ok_locksteplaw06_GraphEnds (a_ends : List (Int)) (a_p1 : List ((Int × Int))) (r : Bool) (h : m_locksteplaw06_GraphEnds a_ends a_p1 = some r) : Spec Try.prog 7 [(AV.list 1 eU8 (0 : Int) a_ends .none), (AV.list 2 eA2U8 ((0 : Int), (0 : Int)) a_p1 .none)] [] (.bool r) [] := by
  refine spec_of_awp (fn := Try.f7) Try.func7 rfl rfl (by kernel_rfl) (fun Γ hn hΓ => ?_)
  have hn : Γ.n = 151 := hn
  unfold m_locksteplaw06_GraphEnds at h
  refine rgs0 (⟨[(0, (Q269 a_ends)), (1, (Q266 a_p1))], [], []⟩ : St) hn mix (no_hand hΓ) (by kernel_rfl) ?_
  refine awp_seq ?_
  obtain ⟨x1, hx1, h⟩ := bind_some h
  refine rgs [⟨[], [], (.bool x1), []⟩] [] (⟨[(0, (Q269 a_ends)), (1, (Q266 a_p1)), (17, (.bool (!x1)))], [], []⟩ : St) [(Spec Try.prog 9 [] [] (.bool x1) [])] hn mix (no_hand hΓ) (by kernel_rfl) ⟨(ok_locksteplaw06_awake  x1 hx1), trivial⟩ ?_
  refine awp_cond (!x1) (by kernel_rfl) (fun hb => ?_) (fun hb => ?_)
  · replace h := cond_t hb h
    clear hb
    refine rgs0 (⟨[(4, (.bool false))], [], []⟩ : St) hn mix (no_hand hΓ) (by kernel_rfl) ?_
    refine awp_ret ?_
    refine then_ret ?_
    obtain rfl := Option.some.inj h
    exact ⟨.inl rfl, [], by kernel_rfl⟩
  · replace h := cond_f hb h
    clear hb
    refine awp_skip ?_
    refine then_normal ?_
    refine rgs0 (⟨[(0, (Q269 a_ends)), (1, (Q266 a_p1)), (5, (Q267 a_ends))], [], []⟩ : St) hn mix (no_hand hΓ) (by kernel_rfl) ?_
    refine awp_seq ?_
    refine rgs [] [] (⟨[(0, (Q269 a_ends)), (1, (Q266 a_p1)), (5, (Q267 a_ends)), (30, (.bool (bif (Q268 a_ends) then true else (((a_p1.length : Int) : Int) == (0 : Int)))))], [], []⟩ : St) [(((decide (((Q279 a_ends) : Int) < (1 : Int))) == false) = true → ((decide (((Q279 a_ends) : Int) < (1 : Int))) == false) = true), ((decide (((Q279 a_ends) : Int) < (1 : Int))) = false → ((decide (((Q279 a_ends) : Int) < (1 : Int))) == false) = true), (((Q268 a_ends) == false) = true → ((Q268 a_ends) == false) = true), (((Q268 a_ends) == false) = true → ((Q268 a_ends) == false) = true), ((Q268 a_ends) = false → ((Q268 a_ends) == false) = true)] hn mix (no_hand hΓ) (by kernel_rfl) ⟨(fun hg => hg), gF, (fun hg => hg), (fun hg => hg), gF, trivial⟩ ?_
    refine awp_cond (bif (Q268 a_ends) then true else (((a_p1.length : Int) : Int) == (0 : Int))) (by kernel_rfl) (fun hb => ?_) (fun hb => ?_)
    · replace h := cond_t hb h
      clear hb
      refine rgs0 (⟨[(4, (.bool true))], [], []⟩ : St) hn mix (no_hand hΓ) (by kernel_rfl) ?_
      refine awp_ret ?_
      refine then_ret ?_
      obtain rfl := Option.some.inj h
      exact ⟨.inl rfl, [], by kernel_rfl⟩
    · replace h := cond_f hb h
      clear hb
      refine awp_skip ?_
      refine then_normal ?_
      refine rgs0 (⟨[(0, (Q269 a_ends)), (1, (Q266 a_p1)), (5, (Q267 a_ends)), (6, (.ptr 6 0))], [(6, .row 25 [Q275, Q274, Q275])], []⟩ : St) hn mix (no_hand hΓ) (by kernel_rfl) ?_
      refine awp_seq ?_
      refine rgs0 (⟨[(0, (Q269 a_ends)), (1, (Q266 a_p1)), (5, (Q267 a_ends)), (6, (.ptr 6 0)), (7, Q274)], [(6, .row 25 [Q275, Q274, Q275])], []⟩ : St) hn mix (no_hand hΓ) (by kernel_rfl) ?_
      refine awp_block ?_
      refine awp_le (st' := (fun ((i2, l3) : (Int × List (TBlock))) => (⟨[(0, (Q269 a_ends)), (1, (Q266 a_p1)), (5, (Q267 a_ends)), (6, (.ptr 6 0)), (7, (.int .i64 i2))], [(6, .row 25 (Q265 l3)), (5602, .tok 5 57 l3.length)], []⟩ : St)) ((0 : Int), ([] : List TBlock))) (Le.trans (le_restrict_eq (st' := (⟨[(0, (Q269 a_ends)), (1, (Q266 a_p1)), (5, (Q267 a_ends)), (6, (.ptr 6 0)), (7, Q274)], [(6, .row 25 [Q275, Q274, Q275])], []⟩ : St)) [0, 1, 5, 6, 7] [6] (by kernel_rfl) (no_hand hΓ)) (Le.trans (le_tag_cell (r := 6) (j := 2) (nm := 5602) (sz' := 5) (fun i => eTBlock (([] : List TBlock).getD i Q280)) 57 rfl rfl (nl rfl) rfl (.inr rfl) (fun h_ => absurd h_ (by decide))) (le_restrict_eq (st' := (⟨[(0, (Q269 a_ends)), (1, (Q266 a_p1)), (5, (Q267 a_ends)), (6, (.ptr 6 0)), (7, Q274)], [(6, .row 25 [Q275, Q274, (AV.list 5 eTBlock Q280 ([] : List TBlock) (.own 5602))]), (5602, .tok 5 57 (([] : List TBlock).length))], []⟩ : St)) [0, 1, 5, 6, 7] [6, 5602] (by kernel_rfl) (no_hand hΓ)))) ?_
      obtain ⟨x22, hx22, h⟩ := bind_some h
      refine awp_loop (fun ((i2, l3) : (Int × List (TBlock))) => (⟨[(0, (Q269 a_ends)), (1, (Q266 a_p1)), (5, (Q267 a_ends)), (6, (.ptr 6 0)), (7, (.int .i64 i2))], [(6, .row 25 (Q265 l3)), (5602, .tok 5 57 l3.length)], []⟩ : St)) _ (fun (l4 : List (TBlock)) (e : Exit) (st : St) => e = (.exit 0) ∧ Le Γ st (⟨[(5, (Q267 a_ends)), (6, (.ptr 6 0))], [(6, .row 25 [Q275, Q274, (AV.list 5 eTBlock Q280 l4 (.own 5602))]), (5602, .tok 5 57 l4.length)], []⟩ : St)) ?_ hx22 ?_
      · rintro ⟨i2, l3⟩ y h
        unfold m_locksteplaw06_GraphEnds_L1 at h
        refine awp_seq ?_
        refine rgs0 (⟨[(0, (Q269 a_ends)), (1, (Q266 a_p1)), (5, (Q267 a_ends)), (6, (.ptr 6 0)), (7, (.int .i64 i2)), (33, (.bool (decide ((i2 : Int) < (Q279 a_ends)))))], [(6, .row 25 (Q265 l3)), (5602, .tok 5 57 l3.length)], []⟩ : St) hn mix (no_hand hΓ) (by kernel_rfl) ?_
        refine awp_cond (decide ((i2 : Int) < (Q279 a_ends))) (by kernel_rfl) (fun hb => ?_) (fun hb => ?_)
        · replace h := cond_t hb h
          clear hb
          refine awp_skip ?_
          refine then_normal ?_
          refine awp_seq ?_
          refine awp_block ?_
          obtain ⟨hc5, h⟩ := chk_some h
          refine rgs [] [(42, (.agg (Q270 a_ends i2)))] (⟨(Q278 a_ends a_p1 i2), (Q277 l3 a_ends i2), []⟩ : St) [(InB i2 a_ends.length), ((4 : Int) ≠ 0), (AVle (.agg [(.int .i64 (Int.tmod (w64 (a_ends.getD (i2).toNat (0 : Int))) (4 : Int))), Q274, Q275]) (.agg (Q270 a_ends i2)))] hn mix (no_hand hΓ) (by kernel_rfl) ⟨hc5, (by decide), (AVle.agg (.cons (AVle.refl _) (.cons (AVle.refl _) (.cons av_nil .nil)))), trivial⟩ ?_
          obtain ⟨hc6, h⟩ := chk_some h
          obtain ⟨hc7, h⟩ := chk_some h
          obtain ⟨hc8, h⟩ := chk_some h
          refine rgs [] [] (⟨[(0, (Q269 a_ends)), (1, (Q266 a_p1)), (5, (Q267 a_ends)), (6, (.ptr 6 0)), (7, (.int .i64 i2)), (8, (.ptr 8 0)), (9, (.int .i64 (Q261 a_p1 i2 a_ends)))], (Q277 l3 a_ends i2), []⟩ : St) [((a_p1.length : Int) ≠ 0), (InB (Int.tmod i2 (a_p1.length : Int)) a_p1.length), (InB (0 : Int) 2), ((if (1 : Int) < (w64 ((Q279 a_ends) - (1 : Int))) then (w64 ((Q279 a_ends) - (1 : Int))) else (1 : Int)) ≠ 0)] hn mix (no_hand hΓ) (by kernel_rfl) ⟨hc6, hc7, (by decide), hc8, trivial⟩ ?_
          obtain ⟨hc9, h⟩ := chk_some h
          obtain ⟨hc10, h⟩ := chk_some h
          obtain ⟨hc11, h⟩ := chk_some h
          refine rgs [] [] (⟨(Q273 a_ends a_p1 i2), (Q277 l3 a_ends i2), []⟩ : St) [((a_p1.length : Int) ≠ 0), (InB (Int.tmod i2 (a_p1.length : Int)) a_p1.length), (InB (1 : Int) 2), ((if (1 : Int) < (w64 ((Q279 a_ends) - (1 : Int))) then (w64 ((Q279 a_ends) - (1 : Int))) else (1 : Int)) ≠ 0)] hn mix (no_hand hΓ) (by kernel_rfl) ⟨hc9, hc10, (by decide), hc11, trivial⟩ ?_
          refine awp_seq ?_
          obtain ⟨x13, hx13, h⟩ := bind_some h
          refine awp_join (fun (i12 : Int) (e : Exit) (st : St) => e = .normal ∧ Le Γ st (⟨(Q273 a_ends a_p1 i2), [(6, .row 25 (Q265 l3)), (8, .row 49 [(.int .i64 i12), Q274, Q276]), (5602, .tok 5 57 l3.length)], []⟩ : St)) hx13 ?_ ?_
          · clear h hx13
            intro y h
            refine rgs0 (⟨[(0, (Q269 a_ends)), (1, (Q266 a_p1)), (5, (Q267 a_ends)), (6, (.ptr 6 0)), (7, (.int .i64 i2)), (8, (.ptr 8 0)), (9, (.int .i64 (Q261 a_p1 i2 a_ends))), (10, (.int .i64 (Q263 a_p1 i2 a_ends))), (72, (.bool (((Q279 a_ends) : Int) == (1 : Int))))], (Q277 l3 a_ends i2), []⟩ : St) hn mix (no_hand hΓ) (by kernel_rfl) ?_
            refine awp_cond (((Q279 a_ends) : Int) == (1 : Int)) (by kernel_rfl) (fun hb => ?_) (fun hb => ?_)
            · replace h := cond_t hb h
              clear hb
              refine rg0 (⟨(Q273 a_ends a_p1 i2), [(6, .row 25 (Q265 l3)), (8, .row 49 [Q274, Q274, Q276]), (5602, .tok 5 57 l3.length)], []⟩ : St) hn mix (no_hand hΓ) (by kernel_rfl) ?_
              obtain rfl := Option.some.inj h
              exact ⟨rfl, Le.refl _ _⟩
            · replace h := cond_f hb h
              clear hb
              refine awp_skip ?_
              obtain rfl := Option.some.inj h
              exact ⟨rfl, le_restrict_eq [0, 1, 5, 6, 7, 8, 9, 10] [6, 8, 5602] (by kernel_rfl) (no_hand hΓ)⟩
          · clear hx13
            rintro e st' ⟨rfl, hl14⟩
            refine then_normal ?_
            refine awp_le hl14 ?_
            refine awp_seq ?_
            obtain ⟨x16, hx16, h⟩ := bind_some h
            refine awp_join (fun (l15 : List (Int)) (e : Exit) (st : St) => e = .normal ∧ Le Γ st (⟨(Q273 a_ends a_p1 i2), [(6, .row 25 (Q265 l3)), (8, .row 49 [(.int .i64 x13), Q274, (AV.list 1 eI64 (0 : Int) l15 .exact)]), (5602, .tok 5 57 l3.length)], []⟩ : St)) hx16 ?_ ?_
            · clear h hx16
              intro y h
              refine rgs0 (⟨[(0, (Q269 a_ends)), (1, (Q266 a_p1)), (5, (Q267 a_ends)), (6, (.ptr 6 0)), (7, (.int .i64 i2)), (8, (.ptr 8 0)), (9, (.int .i64 (Q261 a_p1 i2 a_ends))), (10, (.int .i64 (Q263 a_p1 i2 a_ends))), (76, (.bool ((x13 : Int) == (1 : Int))))], [(6, .row 25 (Q265 l3)), (8, .row 49 [(.int .i64 x13), Q274, Q276]), (5602, .tok 5 57 l3.length)], []⟩ : St) hn mix (no_hand hΓ) (by kernel_rfl) ?_
              refine awp_cond ((x13 : Int) == (1 : Int)) (by kernel_rfl) (fun hb => ?_) (fun hb => ?_)
              · replace h := cond_t hb h
                clear hb
                refine rg [] [(78, (AV.list 1 eI64 (0 : Int) ([(Q261 a_p1 i2 a_ends)] : List (Int)) .exact))] (⟨(Q273 a_ends a_p1 i2), [(6, .row 25 (Q265 l3)), (8, .row 49 [(.int .i64 x13), Q274, (AV.list 1 eI64 (0 : Int) ([(Q261 a_p1 i2 a_ends)] : List (Int)) .exact)]), (5602, .tok 5 57 l3.length)], []⟩ : St) [(AVle (.slice 1 1 (fun i => ([[(.int .i64 (Q261 a_p1 i2 a_ends))]] : List (List AV)).getD i []) .exact) (AV.list 1 eI64 (0 : Int) ([(Q261 a_p1 i2 a_ends)] : List (Int)) .exact))] hn mix (no_hand hΓ) (by kernel_rfl) ⟨(av_lit rfl (fun i hi => map_get (e := eI64) (d := (0 : Int)) ([(Q261 a_p1 i2 a_ends)] : List (Int)) i hi)), trivial⟩ ?_
                obtain rfl := Option.some.inj h
                exact ⟨rfl, Le.refl _ _⟩
              · replace h := cond_f hb h
                clear hb
                refine awp_skip ?_
                obtain rfl := Option.some.inj h
                exact ⟨rfl, le_restrict_eq [0, 1, 5, 6, 7, 8, 9, 10] [6, 8, 5602] (by kernel_rfl) (no_hand hΓ)⟩
            · clear hx16
              rintro e st' ⟨rfl, hl17⟩
              refine then_normal ?_
              refine awp_le hl17 ?_
              refine awp_seq ?_
              obtain ⟨x19, hx19, h⟩ := bind_some h
              refine awp_join (fun (l18 : List (Int)) (e : Exit) (st : St) => e = .normal ∧ Le Γ st (⟨(Q278 a_ends a_p1 i2), [(6, .row 25 (Q265 l3)), (8, .row 49 [(.int .i64 x13), Q274, (AV.list 1 eI64 (0 : Int) l18 .exact)]), (5602, .tok 5 57 l3.length)], []⟩ : St)) hx19 ?_ ?_
              · clear h hx19
                intro y h
                refine rgs0 (⟨[(0, (Q269 a_ends)), (1, (Q266 a_p1)), (5, (Q267 a_ends)), (6, (.ptr 6 0)), (7, (.int .i64 i2)), (8, (.ptr 8 0)), (9, (.int .i64 (Q261 a_p1 i2 a_ends))), (10, (.int .i64 (Q263 a_p1 i2 a_ends))), (82, (.bool ((x13 : Int) == (2 : Int))))], [(6, .row 25 (Q265 l3)), (8, .row 49 [(.int .i64 x13), Q274, (AV.list 1 eI64 (0 : Int) x16 .exact)]), (5602, .tok 5 57 l3.length)], []⟩ : St) hn mix (no_hand hΓ) (by kernel_rfl) ?_
                refine awp_cond ((x13 : Int) == (2 : Int)) (by kernel_rfl) (fun hb => ?_) (fun hb => ?_)
                · replace h := cond_t hb h
                  clear hb
                  refine rg [] [(85, (AV.list 1 eI64 (0 : Int) ([(Q261 a_p1 i2 a_ends), (Q263 a_p1 i2 a_ends)] : List (Int)) .exact))] (⟨(Q278 a_ends a_p1 i2), [(6, .row 25 (Q265 l3)), (8, .row 49 [(.int .i64 x13), Q274, (AV.list 1 eI64 (0 : Int) ([(Q261 a_p1 i2 a_ends), (Q263 a_p1 i2 a_ends)] : List (Int)) .exact)]), (5602, .tok 5 57 l3.length)], []⟩ : St) [(AVle (.slice 1 2 (fun i => ([[(.int .i64 (Q261 a_p1 i2 a_ends))], [(.int .i64 (Q263 a_p1 i2 a_ends))]] : List (List AV)).getD i []) .exact) (AV.list 1 eI64 (0 : Int) ([(Q261 a_p1 i2 a_ends), (Q263 a_p1 i2 a_ends)] : List (Int)) .exact))] hn mix (no_hand hΓ) (by kernel_rfl) ⟨(av_lit rfl (fun i hi => map_get (e := eI64) (d := (0 : Int)) ([(Q261 a_p1 i2 a_ends), (Q263 a_p1 i2 a_ends)] : List (Int)) i hi)), trivial⟩ ?_
                  obtain rfl := Option.some.inj h
                  exact ⟨rfl, Le.refl _ _⟩
                · replace h := cond_f hb h
                  clear hb
                  refine awp_skip ?_
                  obtain rfl := Option.some.inj h
                  exact ⟨rfl, le_restrict_eq [0, 1, 5, 6, 7, 8] [6, 8, 5602] (by kernel_rfl) (no_hand hΓ)⟩
              · clear hx19
                rintro e st' ⟨rfl, hl20⟩
                refine then_normal ?_
                refine awp_le hl20 ?_
                obtain ⟨hc21, h⟩ := chk_some h
                refine rg [] [(90, (.agg [(.int .i64 i2), Q274, Q274, Q274, Q276, (.int .u64 (0 : Int))])), (91, (Q281 i2)), (93, (.agg [(AV.list 4 eTPhi (default : TPhi) Q282 .exact), (Q281 i2), (.int .i64 x13), Q274, (AV.list 1 eI64 (0 : Int) x19 .exact)])), (94, (AV.list 5 eTBlock Q280 ([(⟨Q282, (Q264 i2), (⟨x13, (0 : Int), x19⟩ : TEnd)⟩ : TBlock)] : List (TBlock)) .exact)), (95, (AV.list 5 eTBlock Q280 (l3 ++ ([(⟨Q282, (Q264 i2), (⟨x13, (0 : Int), x19⟩ : TEnd)⟩ : TBlock)] : List (TBlock))) (.own 5602)))] (⟨[(0, (Q269 a_ends)), (1, (Q266 a_p1)), (5, (Q267 a_ends)), (6, (.ptr 6 0)), (7, (.int .i64 i2))], [(6, .row 25 [Q275, Q274, (AV.list 5 eTBlock Q280 (l3 ++ ([(⟨Q282, (Q264 i2), (⟨x13, (0 : Int), x19⟩ : TEnd)⟩ : TBlock)] : List (TBlock))) (.own 5602))]), (5602, .tok 5 57 ((l3 ++ ([(⟨Q282, (Q264 i2), (⟨x13, (0 : Int), x19⟩ : TEnd)⟩ : TBlock)] : List (TBlock))).length))], []⟩ : St) [(AVle (.agg [(.int .i64 i2), Q274, Q274, Q274, Q275, (.int .u64 (0 : Int))]) (.agg [(.int .i64 i2), Q274, Q274, Q274, Q276, (.int .u64 (0 : Int))])), (AVle (.slice 6 1 (fun i => ([[(.int .i64 i2), Q274, Q274, Q274, (AV.list 1 eI64 (0 : Int) ([] : List Int) .none), (.int .u64 (0 : Int))]] : List (List AV)).getD i []) .exact) (Q281 i2)), (AVle (.agg [Q275, (Q281 i2), (.int .i64 x13), Q274, (AV.list 1 eI64 (0 : Int) x19 .exact)]) (.agg [(AV.list 4 eTPhi (default : TPhi) Q282 .exact), (Q281 i2), (.int .i64 x13), Q274, (AV.list 1 eI64 (0 : Int) x19 .exact)])), (AVle (.slice 5 1 (fun i => ([[(AV.list 4 eTPhi (default : TPhi) Q282 .none), (AV.list 6 eTOp (default : TOp) (Q264 i2) .none), (.int .i64 x13), Q274, (AV.list 1 eI64 (0 : Int) x19 .none)]] : List (List AV)).getD i []) .exact) (AV.list 5 eTBlock Q280 ([(⟨Q282, (Q264 i2), (⟨x13, (0 : Int), x19⟩ : TEnd)⟩ : TBlock)] : List (TBlock)) .exact)), (l3.length = l3.length), (l3.length + ([(⟨Q282, (Q264 i2), (⟨x13, (0 : Int), x19⟩ : TEnd)⟩ : TBlock)] : List (TBlock)).length ≤ room), (AVle (.slice 5 (l3.length + ([(⟨Q282, (Q264 i2), (⟨x13, (0 : Int), x19⟩ : TEnd)⟩ : TBlock)] : List (TBlock)).length) (appF l3.length (fun i => eTBlock (l3.getD i Q280)) (fun i => eTBlock (([(⟨Q282, (Q264 i2), (⟨x13, (0 : Int), x19⟩ : TEnd)⟩ : TBlock)] : List (TBlock)).getD i Q280))) (.own 5602)) (AV.list 5 eTBlock Q280 (l3 ++ ([(⟨Q282, (Q264 i2), (⟨x13, (0 : Int), x19⟩ : TEnd)⟩ : TBlock)] : List (TBlock))) (.own 5602))), (l3.length + ([(⟨Q282, (Q264 i2), (⟨x13, (0 : Int), x19⟩ : TEnd)⟩ : TBlock)] : List (TBlock)).length = (l3 ++ ([(⟨Q282, (Q264 i2), (⟨x13, (0 : Int), x19⟩ : TEnd)⟩ : TBlock)] : List (TBlock))).length)] hn mix (no_hand hΓ) (by kernel_rfl) ⟨(AVle.agg (.cons (AVle.refl _) (.cons (AVle.refl _) (.cons (AVle.refl _) (.cons (AVle.refl _) (.cons av_nil (.cons (AVle.refl _) .nil))))))), (av_lit rfl (fun i hi => map_get (e := eTOp) (d := (default : TOp)) (Q264 i2) i hi)), (AVle.agg (.cons av_nil (.cons (AVle.refl _) (.cons (AVle.refl _) (.cons (AVle.refl _) (.cons (AVle.refl _) .nil)))))), (av_lit rfl (fun i hi => map_get (e := eTBlock) (d := Q280) ([(⟨Q282, (Q264 i2), (⟨x13, (0 : Int), x19⟩ : TEnd)⟩ : TBlock)] : List (TBlock)) i hi)), rfl, hc21, av_app, (len_app _ _), trivial⟩ ?_
                refine block_normal ?_
                refine then_normal ?_
                refine rg0 (⟨[(0, (Q269 a_ends)), (1, (Q266 a_p1)), (5, (Q267 a_ends)), (6, (.ptr 6 0)), (7, (.int .i64 (w64 (i2 + (1 : Int)))))], [(6, .row 25 [Q275, Q274, (AV.list 5 eTBlock Q280 (l3 ++ ([(⟨Q282, (Q264 i2), (⟨x13, (0 : Int), x19⟩ : TEnd)⟩ : TBlock)] : List (TBlock))) (.own 5602))]), (5602, .tok 5 57 ((l3 ++ ([(⟨Q282, (Q264 i2), (⟨x13, (0 : Int), x19⟩ : TEnd)⟩ : TBlock)] : List (TBlock))).length))], []⟩ : St) hn mix (no_hand hΓ) (by kernel_rfl) ?_
                obtain rfl := Option.some.inj h
                exact ⟨rfl, Le.refl _ _⟩
        · replace h := cond_f hb h
          clear hb
          refine awp_exit ?_
          refine then_exit ?_
          obtain rfl := Option.some.inj h
          exact ⟨(by intro hh; cases hh), rfl, le_restrict_eq [5, 6] [6, 5602] (by kernel_rfl) (no_hand hΓ)⟩
      · clear hx22
        rintro e st' ⟨rfl, hl23⟩
        refine block_here ?_
        refine then_normal ?_
        refine awp_le hl23 ?_
        obtain ⟨x24, hx24, h⟩ := bind_some h
        refine rgs [⟨[], [], (.tuple [(.agg (eTGraph x24.1)), (.int .i64 x24.2)]), []⟩] [(98, (.agg [Q276, Q274, (AV.list 5 eTBlock Q280 x22 (.own 5602))]))] (⟨[(5, (Q267 a_ends)), (6, (.ptr 6 0)), (11, (.ptr 11 0)), (12, (.int .i64 x24.2))], (Q262 x22 x24), []⟩ : St) [(AVle (.agg [Q275, Q274, (AV.list 5 eTBlock Q280 x22 (.own 5602))]) (.agg [Q276, Q274, (AV.list 5 eTBlock Q280 x22 (.own 5602))])), (Spec Try.prog 11 [(.agg [(AV.list 1 eI64 (0 : Int) ([] : List Int) .none), Q274, (AV.list 5 eTBlock Q280 x22 .none)])] [] (.tuple [(.agg (eTGraph x24.1)), (.int .i64 x24.2)]) [])] hn mix (no_hand hΓ) (by kernel_rfl) ⟨(AVle.agg (.cons av_nil (.cons (AVle.refl _) (.cons (AVle.refl _) .nil)))), (ok_graph_Of (⟨([] : List Int), (0 : Int), x22⟩ : TFunc) x24 hx24), trivial⟩ ?_
        refine awp_seq ?_
        obtain ⟨hc25, h⟩ := chk_some h
        refine rgs [] [] (⟨[(5, (Q267 a_ends)), (6, (.ptr 6 0)), (11, (.ptr 11 0)), (111, (.bool (Q283 x24)))], (Q262 x22 x24), []⟩ : St) [((Q271 x24) = true → (Q271 x24) = true), ((Q271 x24) = true → (Q271 x24) = true), ((Q271 x24) = true → (InB (0 : Int) x24.1.Pred.length)), ((Q271 x24) = true → (Q271 x24) = true), ((Q271 x24) = true → (Q271 x24) = true), ((Q271 x24) = true → (Q271 x24) = true), (((x24.2 : Int) != (0 : Int)) = false → (Q271 x24) = true)] hn mix (no_hand hΓ) (by kernel_rfl) ⟨(fun hg => hg), (fun hg => hg), (fun hg => (hc25 hg)), (fun hg => hg), (fun hg => hg), (fun hg => hg), gF, trivial⟩ ?_
        refine awp_cond (Q283 x24) (by kernel_rfl) (fun hb => ?_) (fun hb => ?_)
        · replace h := cond_t hb h
          clear hb
          refine rgs0 (⟨[(4, (.bool false))], [], []⟩ : St) hn mix (no_hand hΓ) (by kernel_rfl) ?_
          refine awp_ret ?_
          refine then_ret ?_
          obtain rfl := Option.some.inj h
          exact ⟨.inl rfl, [], by kernel_rfl⟩
        · replace h := cond_f hb h
          clear hb
          refine awp_skip ?_
          refine then_normal ?_
          refine awp_seq ?_
          refine rgs0 (⟨[(5, (Q267 a_ends)), (6, (.ptr 6 0)), (11, (.ptr 11 0)), (13, Q274)], (Q262 x22 x24), []⟩ : St) hn mix (no_hand hΓ) (by kernel_rfl) ?_
          refine awp_block ?_
          refine awp_le (st' := (fun (i26 : Int) => (⟨[(5, (Q267 a_ends)), (6, (.ptr 6 0)), (11, (.ptr 11 0)), (13, (.int .i64 i26))], (Q262 x22 x24), []⟩ : St)) (0 : Int)) (Le.refl _ _) ?_
          obtain ⟨x37, hx37, h⟩ := bind_some h
          refine awp_loop (fun (i26 : Int) => (⟨[(5, (Q267 a_ends)), (6, (.ptr 6 0)), (11, (.ptr 11 0)), (13, (.int .i64 i26))], (Q262 x22 x24), []⟩ : St)) _ (fun (x_ : (Unit ⊕ Bool)) (e : Exit) (st : St) => match x_ with | (.inl _) => e = (.exit 2) ∧ Le Γ st (⟨[], [], []⟩ : St) | (.inr r_) => e = .ret ∧ retK Try.prog Try.f7.results.toList [] (.bool r_) [] e st) ?_ hx37 ?_
          · intro i26 y h
            unfold m_locksteplaw06_GraphEnds_L3 at h
            refine awp_seq ?_
            refine rgs0 (⟨[(5, (Q267 a_ends)), (6, (.ptr 6 0)), (11, (.ptr 11 0)), (13, (.int .i64 i26)), (114, (.bool (decide ((i26 : Int) < (Q279 a_ends)))))], (Q262 x22 x24), []⟩ : St) hn mix (no_hand hΓ) (by kernel_rfl) ?_
            refine awp_cond (decide ((i26 : Int) < (Q279 a_ends))) (by kernel_rfl) (fun hb => ?_) (fun hb => ?_)
            · replace h := cond_t hb h
              clear hb
              refine awp_skip ?_
              refine then_normal ?_
              refine awp_seq ?_
              refine awp_block ?_
              refine rgs0 (⟨[(5, (Q267 a_ends)), (6, (.ptr 6 0)), (11, (.ptr 11 0)), (13, (.int .i64 i26)), (14, Q274)], (Q262 x22 x24), []⟩ : St) hn mix (no_hand hΓ) (by kernel_rfl) ?_
              refine awp_block ?_
              refine awp_le (st' := (fun (i27 : Int) => (⟨[(5, (Q267 a_ends)), (6, (.ptr 6 0)), (11, (.ptr 11 0)), (13, (.int .i64 i26)), (14, (.int .i64 i27))], (Q262 x22 x24), []⟩ : St)) (0 : Int)) (Le.refl _ _) ?_
              obtain ⟨x34, hx34, h⟩ := bind_some h
              refine awp_loop (fun (i27 : Int) => (⟨[(5, (Q267 a_ends)), (6, (.ptr 6 0)), (11, (.ptr 11 0)), (13, (.int .i64 i26)), (14, (.int .i64 i27))], (Q262 x22 x24), []⟩ : St)) _ (fun (x_ : (Unit ⊕ Bool)) (e : Exit) (st : St) => match x_ with | (.inl _) => e = (.exit 4) ∧ Le Γ st (⟨[(5, (Q267 a_ends)), (6, (.ptr 6 0)), (11, (.ptr 11 0)), (13, (.int .i64 i26))], (Q262 x22 x24), []⟩ : St) | (.inr r_) => e = .ret ∧ retK Try.prog Try.f7.results.toList [] (.bool r_) [] e st) ?_ hx34 ?_
              · intro i27 y h
                unfold m_locksteplaw06_GraphEnds_L2 at h
                refine awp_seq ?_
                refine rgs0 (⟨[(5, (Q267 a_ends)), (6, (.ptr 6 0)), (11, (.ptr 11 0)), (13, (.int .i64 i26)), (14, (.int .i64 i27)), (119, (.bool (decide ((i27 : Int) < (Q279 a_ends)))))], (Q262 x22 x24), []⟩ : St) hn mix (no_hand hΓ) (by kernel_rfl) ?_
                refine awp_cond (decide ((i27 : Int) < (Q279 a_ends))) (by kernel_rfl) (fun hb => ?_) (fun hb => ?_)
                · replace h := cond_t hb h
                  clear hb
                  refine awp_skip ?_
                  refine then_normal ?_
                  refine awp_seq ?_
                  refine awp_block ?_
                  obtain ⟨hc28, h⟩ := chk_some h
                  obtain ⟨x29, hx29, h⟩ := bind_some h
                  refine rgs [⟨[], [], (.bool x29), []⟩] [] (⟨[(5, (Q267 a_ends)), (6, (.ptr 6 0)), (11, (.ptr 11 0)), (13, (.int .i64 i26)), (14, (.int .i64 i27)), (15, (.bool x29))], (Q262 x22 x24), []⟩ : St) [(InB i26 x22.length), (Spec Try.prog 24 [(AV.list 1 eI64 (0 : Int) (x22.getD (i26).toNat Q280).End.To .none), (.int .i64 i27)] [] (.bool x29) [])] hn mix (no_hand hΓ) (by kernel_rfl) ⟨hc28, (ok_lockstepref06_Has ((x22.getD (i26).toNat Q280).End.To) i27 x29 hx29), trivial⟩ ?_
                  obtain ⟨hc30, h⟩ := chk_some h
                  obtain ⟨x31, hx31, h⟩ := bind_some h
                  obtain ⟨hc32, h⟩ := chk_some h
                  obtain ⟨x33, hx33, h⟩ := bind_some h
                  refine rgs [⟨[], [], (.bool x31), []⟩, ⟨[], [], (.bool x33), []⟩] [] (⟨[(5, (Q267 a_ends)), (6, (.ptr 6 0)), (11, (.ptr 11 0)), (13, (.int .i64 i26)), (14, (.int .i64 i27)), (150, (.bool (bif (x31 != x29) then true else (x33 != x29))))], (Q262 x22 x24), []⟩ : St) [(InB i26 x24.1.Succ.length), (Spec Try.prog 24 [(AV.list 1 eI64 (0 : Int) (x24.1.Succ.getD (i26).toNat []) .none), (.int .i64 i27)] [] (.bool x31) []), ((Q272 x31 x29) = true → (Q272 x31 x29) = true), ((Q272 x31 x29) = true → (Q272 x31 x29) = true), ((Q272 x31 x29) = true → (Q272 x31 x29) = true), ((Q272 x31 x29) = true → (InB i27 x24.1.Pred.length)), ((Q272 x31 x29) = true → (Q272 x31 x29) = true), ((Q272 x31 x29) = true → (Q272 x31 x29) = true), ((Q272 x31 x29) = true → (Q272 x31 x29) = true), ((Q272 x31 x29) = true → (Spec Try.prog 24 [(AV.list 1 eI64 (0 : Int) (x24.1.Pred.getD (i27).toNat []) .none), (.int .i64 i26)] [] (.bool x33) [])), ((Q272 x31 x29) = true → (Q272 x31 x29) = true), ((Q272 x31 x29) = true → (Q272 x31 x29) = true), ((x31 != x29) = false → (Q272 x31 x29) = true)] hn mix (no_hand hΓ) (by kernel_rfl) ⟨hc30, (ok_lockstepref06_Has (x24.1.Succ.getD (i26).toNat []) i27 x31 hx31), (fun hg => hg), (fun hg => hg), (fun hg => hg), (fun hg => (hc32 hg)), (fun hg => hg), (fun hg => hg), (fun hg => hg), (fun hg => (ok_lockstepref06_Has (x24.1.Pred.getD (i27).toNat []) i26 x33 (cond_t hg hx33))), (fun hg => hg), (fun hg => hg), gF, trivial⟩ ?_
                  refine awp_cond (bif (x31 != x29) then true else (x33 != x29)) (by kernel_rfl) (fun hb => ?_) (fun hb => ?_)
                  · replace h := cond_t hb h
                    clear hb
                    refine rgs0 (⟨[(4, (.bool false))], [], []⟩ : St) hn mix (no_hand hΓ) (by kernel_rfl) ?_
                    refine awp_ret ?_
                    refine block_ret ?_
                    refine then_ret ?_
                    obtain rfl := Option.some.inj h
                    exact ⟨(by intro hh; cases hh), rfl, ⟨.inl rfl, [], by kernel_rfl⟩⟩
                  · replace h := cond_f hb h
                    clear hb
                    refine awp_skip ?_
                    refine block_normal ?_
                    refine then_normal ?_
                    refine rg0 (⟨[(5, (Q267 a_ends)), (6, (.ptr 6 0)), (11, (.ptr 11 0)), (13, (.int .i64 i26)), (14, (.int .i64 (w64 (i27 + (1 : Int)))))], (Q262 x22 x24), []⟩ : St) hn mix (no_hand hΓ) (by kernel_rfl) ?_
                    obtain rfl := Option.some.inj h
                    exact ⟨rfl, Le.refl _ _⟩
                · replace h := cond_f hb h
                  clear hb
                  refine awp_exit ?_
                  refine then_exit ?_
                  obtain rfl := Option.some.inj h
                  exact ⟨(by intro hh; cases hh), rfl, le_restrict_eq [5, 6, 11, 13] [6, 11, 5602] (by kernel_rfl) (no_hand hΓ)⟩
              · clear hx34
                rcases x34 with _ | r36
                · rintro e st' ⟨rfl, hl35⟩
                  refine block_here ?_
                  refine block_normal ?_
                  refine then_normal ?_
                  refine awp_le hl35 ?_
                  refine rg0 (⟨[(5, (Q267 a_ends)), (6, (.ptr 6 0)), (11, (.ptr 11 0)), (13, (.int .i64 (w64 (i26 + (1 : Int)))))], (Q262 x22 x24), []⟩ : St) hn mix (no_hand hΓ) (by kernel_rfl) ?_
                  obtain rfl := Option.some.inj h
                  exact ⟨rfl, Le.refl _ _⟩
                · rintro e st' ⟨rfl, hk⟩
                  refine block_ret ?_
                  refine block_ret ?_
                  refine then_ret ?_
                  obtain rfl := Option.some.inj h
                  exact ⟨(by intro hh; cases hh), rfl, hk⟩
            · replace h := cond_f hb h
              clear hb
              refine awp_exit ?_
              refine then_exit ?_
              obtain rfl := Option.some.inj h
              exact ⟨(by intro hh; cases hh), rfl, le_restrict_eq [] [] (by kernel_rfl) (no_hand hΓ)⟩
          · clear hx37
            rcases x37 with _ | r39
            · rintro e st' ⟨rfl, hl38⟩
              refine block_here ?_
              refine then_normal ?_
              refine awp_le hl38 ?_
              refine rgs0 (⟨[(4, (.bool true))], [], []⟩ : St) hn mix (no_hand hΓ) (by kernel_rfl) ?_
              refine awp_ret ?_
              obtain rfl := Option.some.inj h
              exact ⟨.inl rfl, [], by kernel_rfl⟩
            · rintro e st' ⟨rfl, hk⟩
              refine block_ret ?_
              refine then_ret ?_
              obtain rfl := Option.some.inj h
              exact hk

noncomputable def m_locksteplaw06_GraphLine_L1 (a_n : Int) : (Int × List (List (Int))) → Option (LR (Int × List (List (Int))) (List (List (Int)))) :=
  fun ((i3, l4) : (Int × List (List (Int)))) => (bif (decide (((w64 (i3 + (1 : Int))) : Int) < (w64 ((1 : Int) + (Int.tmod (w64 a_n) (60 : Int)))))) then (chk (InB i3 l4.length) (some (.next ((w64 (i3 + (1 : Int))), (l4.set (i3).toNat ([(w64 (i3 + (1 : Int)))] : List (Int))))))) else (some (.done l4)))
noncomputable def m_locksteplaw06_GraphLine_L2 (a_n : Int) (a_p1 : Int) (a_p2 : Bool) : (List (Int) × Int) → Option (LR (List (Int) × Int) (List (Int))) :=
  fun ((l15, i16) : (List (Int) × Int)) => (bif (decide ((i16 : Int) < (w64 ((1 : Int) + (Int.tmod (w64 a_n) (60 : Int)))))) then (Option.bind (α := List (Int)) (bif (bif a_p2 then true else (decide (((w64 ((Int.tmod (w64 a_p1) (w64 ((1 : Int) + (Int.tmod (w64 a_n) (60 : Int))))) + i16)) : Int) < (w64 ((1 : Int) + (Int.tmod (w64 a_n) (60 : Int))))))) then (chk ((w64 ((1 : Int) + (Int.tmod (w64 a_n) (60 : Int)))) ≠ 0) (chk (l15.length + ([(Int.tmod (w64 ((Int.tmod (w64 a_p1) (w64 ((1 : Int) + (Int.tmod (w64 a_n) (60 : Int))))) + i16)) (w64 ((1 : Int) + (Int.tmod (w64 a_n) (60 : Int)))))] : List (Int)).length ≤ room) (some ((l15 ++ ([(Int.tmod (w64 ((Int.tmod (w64 a_p1) (w64 ((1 : Int) + (Int.tmod (w64 a_n) (60 : Int))))) + i16)) (w64 ((1 : Int) + (Int.tmod (w64 a_n) (60 : Int)))))] : List (Int))))))) else (some (l15))) (fun x21 => ((some (.next (x21, (w64 (i16 + (1 : Int))))))))) else (some (.done l15)))
noncomputable def Q289 (x13 : (TGraph × Int)) : AV := (.int .i64 x13.2)
noncomputable def Q284 (a_n : Int) := (w64 ((1 : Int) + (Int.tmod (w64 a_n) (60 : Int))))
noncomputable def Q292 (a_n : Int) : AV := (.int .i64 (Q284 a_n))
noncomputable def Q295 (x13 : (TGraph × Int)) := ((x13.2 : Int) == (0 : Int))
noncomputable def Q287 (i3 : Int) := ([(w64 (i3 + (1 : Int)))] : List (Int))
noncomputable def Q291 (a_p1 : Int) (a_n : Int) : AV := (.int .i64 (Int.tmod (w64 a_p1) (Q284 a_n)))
noncomputable def Q288 : AV := (AV.list 1 eI64 (0 : Int) ([] : List Int) .exact)
noncomputable def Q293 (a_n : Int) := (List.replicate ((Q284 a_n)).toNat ([] : List (Int)))
noncomputable def Q286 (x13 : (TGraph × Int)) (x25 : Bool) := ((bif (Q295 x13) then x25 else false) == true)
noncomputable def Q294 (x7 : List (List (Int))) (a_n : Int) := (x7.set ((w64 ((Q284 a_n) - (1 : Int)))).toNat ([(0 : Int)] : List (Int)))
noncomputable def Q285 (x13 : (TGraph × Int)) : List AV := [(AV.list 1 eLI64 [] x13.1.Succ .none), (AV.list 1 eLI64 [] x13.1.Pred .none)]
noncomputable def Q290 (a_p1 : Int) (a_n : Int) (i16 : Int) := ([(Int.tmod (w64 ((Int.tmod (w64 a_p1) (Q284 a_n)) + i16)) (Q284 a_n))] : List (Int))
noncomputable def Q296 (a_p1 : Int) (a_p2 : Bool) (a_n : Int) (l4 : List (List (Int))) (i3 : Int) : List (Nat × AV) := [(1, (.int .u8 a_p1)), (2, (.bool a_p2)), (7, (Q292 a_n)), (8, (.vsl 22 l4.length)), (9, (.int .i64 i3))]
noncomputable def Q298 (a_p2 : Bool) (a_n : Int) (x13 : (TGraph × Int)) (a_p1 : Int) := (⟨[(2, (.bool a_p2)), (7, (Q292 a_n)), (10, (.ptr 10 0)), (11, (Q289 x13)), (12, (Q291 a_p1 a_n)), (13, Q288), (14, (.int .i64 (0 : Int)))], [(10, .row 30 (Q285 x13))], []⟩ : St)
noncomputable def Q297 (a_p2 : Bool) (a_n : Int) (x13 : (TGraph × Int)) (a_p1 : Int) (l15 : List (Int)) (i16 : Int) := (⟨[(2, (.bool a_p2)), (7, (Q292 a_n)), (10, (.ptr 10 0)), (11, (Q289 x13)), (12, (Q291 a_p1 a_n)), (13, (AV.list 1 eI64 (0 : Int) l15 (.own 5013))), (14, (.int .i64 i16))], [(10, .row 30 (Q285 x13)), (5013, .tok 1 3 l15.length)], []⟩ : St)
noncomputable def m_locksteplaw06_GraphLine (a_n : Int) (a_p1 : Int) (a_p2 : Bool) : Option Bool :=
  ((m_locksteplaw06_awake).bind fun x1 => (bif (!x1) then (some false) else (chk (0 ≤ (w64 ((1 : Int) + (Int.tmod (w64 a_n) (60 : Int)))) ∧ (w64 ((1 : Int) + (Int.tmod (w64 a_n) (60 : Int)))) ≤ (w64 ((1 : Int) + (Int.tmod (w64 a_n) (60 : Int)))) ∧ (w64 ((1 : Int) + (Int.tmod (w64 a_n) (60 : Int)))) ≤ (room : Int)) ((loopO (S := (Int × List (List (Int)))) (X := List (List (Int))) (m_locksteplaw06_GraphLine_L1 a_n) ((0 : Int), (List.replicate ((w64 ((1 : Int) + (Int.tmod (w64 a_n) (60 : Int))))).toNat ([] : List (Int))))).bind (fun x7 => ((Option.bind (α := List (List (Int))) (bif a_p2 then (chk (InB (w64 ((w64 ((1 : Int) + (Int.tmod (w64 a_n) (60 : Int)))) - (1 : Int))) x7.length) (some ((x7.set ((w64 ((w64 ((1 : Int) + (Int.tmod (w64 a_n) (60 : Int)))) - (1 : Int)))).toNat ([(0 : Int)] : List (Int)))))) else (some (x7))) (fun x11 => (((m_graph_Make x11).bind fun x13 => (chk ((w64 ((1 : Int) + (Int.tmod (w64 a_n) (60 : Int)))) ≠ 0) ((loopO (S := (List (Int) × Int)) (X := List (Int)) (m_locksteplaw06_GraphLine_L2 a_n a_p1 a_p2) (([] : List Int), (0 : Int))).bind (fun x23 => (((bif (((x13.2 : Int) == (0 : Int)) == true) then m_lockstepref06_May x13.1 else some false).bind fun x25 => ((bif ((bif ((x13.2 : Int) == (0 : Int)) then x25 else false) == true) then m_graph_Order x13.1 (Int.tmod (w64 a_p1) (w64 ((1 : Int) + (Int.tmod (w64 a_n) (60 : Int))))) else some []).bind fun x26 => ((bif ((bif ((x13.2 : Int) == (0 : Int)) then x25 else false) == true) then m_lockstepref02_Ints x26 x23 else some false).bind fun x27 => (some (bif (bif ((x13.2 : Int) == (0 : Int)) then x25 else false) then x27 else false)))))))))))))))))))
theorem ok_locksteplaw06_GraphLine (a_n : Int) (a_p1 : Int) (a_p2 : Bool) (r : Bool) (h : m_locksteplaw06_GraphLine a_n a_p1 a_p2 = some r) : Spec Try.prog 8 [(.int .u8 a_n), (.int .u8 a_p1), (.bool a_p2)] [] (.bool r) [] := by
  refine spec_of_awp (fn := Try.f8) Try.func8 rfl rfl (by kernel_rfl) (fun Γ hn hΓ => ?_)
  have hn : Γ.n = 84 := hn
  unfold m_locksteplaw06_GraphLine at h
  refine rgs0 (⟨[(0, (.int .u8 a_n)), (1, (.int .u8 a_p1)), (2, (.bool a_p2))], [], []⟩ : St) hn mix (no_hand hΓ) (by kernel_rfl) ?_
  refine awp_seq ?_
  obtain ⟨x1, hx1, h⟩ := bind_some h
  refine rgs [⟨[], [], (.bool x1), []⟩] [] (⟨[(0, (.int .u8 a_n)), (1, (.int .u8 a_p1)), (2, (.bool a_p2)), (16, (.bool (!x1)))], [], []⟩ : St) [(Spec Try.prog 9 [] [] (.bool x1) [])] hn mix (no_hand hΓ) (by kernel_rfl) ⟨(ok_locksteplaw06_awake  x1 hx1), trivial⟩ ?_
  refine awp_cond (!x1) (by kernel_rfl) (fun hb => ?_) (fun hb => ?_)
  · replace h := cond_t hb h
    clear hb
    refine rgs0 (⟨[(6, (.bool false))], [], []⟩ : St) hn mix (no_hand hΓ) (by kernel_rfl) ?_
    refine awp_ret ?_
    refine then_ret ?_
    obtain rfl := Option.some.inj h
    exact ⟨.inl rfl, [], by kernel_rfl⟩
  · replace h := cond_f hb h
    clear hb
    refine awp_skip ?_
    refine then_normal ?_
    refine rgs [] [] (⟨[(1, (.int .u8 a_p1)), (2, (.bool a_p2)), (7, (Q292 a_n))], [], []⟩ : St) [((60 : Int) ≠ 0)] hn mix (no_hand hΓ) (by kernel_rfl) ⟨(by decide), trivial⟩ ?_
    obtain ⟨hc2, h⟩ := chk_some h
    refine rgs [] [] (⟨[(1, (.int .u8 a_p1)), (2, (.bool a_p2)), (7, (Q292 a_n)), (8, (.vsl 22 ((Q284 a_n)).toNat))], [(22, .arr 1 22 (((Q284 a_n)).toNat) (fun i_ => AV.eraseAll (fun n_ => memB n_ [22]) ((fun _ => [(.slice 0 0 (fun _ => []) .exact)]) i_)))], []⟩ : St) [(0 ≤ (Q284 a_n) ∧ (Q284 a_n) ≤ (Q284 a_n) ∧ (Q284 a_n) ≤ (room : Int))] hn mix (no_hand hΓ) (by kernel_rfl) ⟨hc2, trivial⟩ ?_
    refine awp_le (Le.trans (le_of (st' := (⟨[(1, (.int .u8 a_p1)), (2, (.bool a_p2)), (7, (Q292 a_n)), (8, (.vsl 22 ((Q284 a_n)).toNat))], [(22, .arr 1 22 (((Q284 a_n)).toNat) (fun i => eLI64 ((Q293 a_n).getD i [])))], []⟩ : St)) (TmpsLe.refl _) (.arr (fun k hk => make_le (e := eLI64) (d := []) (.cons (fun _ _ _ _ _ hh => AVle.untag _ _ _ _ _ (av_nil _ _ _ _ _ hh)) .nil) _ k (repl_lt hk)) .nil)) (le_eq (congrArg (fun k_ : Nat => (⟨[(1, (.int .u8 a_p1)), (2, (.bool a_p2)), (7, (Q292 a_n)), (8, (.vsl 22 k_))], [(22, .arr 1 22 k_ (fun i => eLI64 ((Q293 a_n).getD i [])))], []⟩ : St)) (show ((Q284 a_n)).toNat = (Q293 a_n).length from (List.length_replicate ..).symm)))) ?_
    refine awp_seq ?_
    refine rgs0 (⟨[(1, (.int .u8 a_p1)), (2, (.bool a_p2)), (7, (Q292 a_n)), (8, (.vsl 22 (Q293 a_n).length)), (9, (.int .i64 (0 : Int)))], [(22, .arr 1 22 ((Q293 a_n).length) (fun i => eLI64 ((Q293 a_n).getD i [])))], []⟩ : St) hn mix (no_hand hΓ) (by kernel_rfl) ?_
    refine awp_block ?_
    refine awp_le (st' := (fun ((i3, l4) : (Int × List (List (Int)))) => (⟨(Q296 a_p1 a_p2 a_n l4 i3), [(22, .arr 1 22 l4.length (fun i => eLI64 (l4.getD i [])))], []⟩ : St)) ((0 : Int), (Q293 a_n))) (Le.refl _ _) ?_
    obtain ⟨x7, hx7, h⟩ := bind_some h
    refine awp_loop (fun ((i3, l4) : (Int × List (List (Int)))) => (⟨(Q296 a_p1 a_p2 a_n l4 i3), [(22, .arr 1 22 l4.length (fun i => eLI64 (l4.getD i [])))], []⟩ : St)) _ (fun (l5 : List (List (Int))) (e : Exit) (st : St) => e = (.exit 0) ∧ Le Γ st (⟨[(1, (.int .u8 a_p1)), (2, (.bool a_p2)), (7, (Q292 a_n)), (8, (.vsl 22 l5.length))], [(22, .arr 1 22 l5.length (fun i => eLI64 (l5.getD i [])))], []⟩ : St)) ?_ hx7 ?_
    · rintro ⟨i3, l4⟩ y h
      unfold m_locksteplaw06_GraphLine_L1 at h
      refine awp_seq ?_
      refine rgs0 (⟨[(1, (.int .u8 a_p1)), (2, (.bool a_p2)), (7, (Q292 a_n)), (8, (.vsl 22 l4.length)), (9, (.int .i64 i3)), (26, (.bool (decide (((w64 (i3 + (1 : Int))) : Int) < (Q284 a_n)))))], [(22, .arr 1 22 l4.length (fun i => eLI64 (l4.getD i [])))], []⟩ : St) hn mix (no_hand hΓ) (by kernel_rfl) ?_
      refine awp_cond (decide (((w64 (i3 + (1 : Int))) : Int) < (Q284 a_n))) (by kernel_rfl) (fun hb => ?_) (fun hb => ?_)
      · replace h := cond_t hb h
        clear hb
        refine awp_skip ?_
        refine then_normal ?_
        refine awp_seq ?_
        refine awp_block ?_
        obtain ⟨hc6, h⟩ := chk_some h
        refine rg [] [(33, (AV.list 1 eI64 (0 : Int) (Q287 i3) .none))] (⟨(Q296 a_p1 a_p2 a_n l4 i3), [(22, .arr 1 22 l4.length (fun i_ => AV.eraseAll (fun n_ => memB n_ [22]) ((putF (fun i => eLI64 (l4.getD i [])) (i3).toNat 0 [(AV.list 1 eI64 (0 : Int) (Q287 i3) .none)]) i_)))], []⟩ : St) [(AVle (.slice 1 1 (fun i => ([[(.int .i64 (w64 (i3 + (1 : Int))))]] : List (List AV)).getD i []) .exact) (AV.list 1 eI64 (0 : Int) (Q287 i3) .none)), (InB i3 l4.length), (l4.length = l4.length)] hn mix (no_hand hΓ) (by kernel_rfl) ⟨(fun _ _ _ _ _ hh => AVle.untag _ _ _ _ _ ((av_lit rfl (fun i hi => map_get (e := eI64) (d := (0 : Int)) (Q287 i3) i hi)) _ _ _ _ _ hh)), hc6, rfl, trivial⟩ ?_
        refine block_normal ?_
        refine then_normal ?_
        refine awp_le (Le.trans (le_of (st' := (⟨(Q296 a_p1 a_p2 a_n l4 i3), [(22, .arr 1 22 l4.length (fun i => eLI64 ((l4.set (i3).toNat (Q287 i3)).getD i [])))], []⟩ : St)) (TmpsLe.refl _) (.arr (leL_of_eq (List.length_set ..).symm (fun k_ hk_ => (congrArg (AV.eraseAll (fun n_ => memB n_ [22])) ((putF_set (fun _ _ => rfl) (inB_lt0 hc6) rfl) k_ hk_)).trans rfl)) .nil)) (le_eq (congrArg (fun k_ : Nat => (⟨[(1, (.int .u8 a_p1)), (2, (.bool a_p2)), (7, (Q292 a_n)), (8, (.vsl 22 k_)), (9, (.int .i64 i3))], [(22, .arr 1 22 k_ (fun i => eLI64 ((l4.set (i3).toNat (Q287 i3)).getD i [])))], []⟩ : St)) (show l4.length = (l4.set (i3).toNat (Q287 i3)).length from (List.length_set ..).symm)))) ?_
        refine rg0 (⟨[(1, (.int .u8 a_p1)), (2, (.bool a_p2)), (7, (Q292 a_n)), (8, (.vsl 22 (l4.set (i3).toNat (Q287 i3)).length)), (9, (.int .i64 (w64 (i3 + (1 : Int)))))], [(22, .arr 1 22 ((l4.set (i3).toNat (Q287 i3)).length) (fun i => eLI64 ((l4.set (i3).toNat (Q287 i3)).getD i [])))], []⟩ : St) hn mix (no_hand hΓ) (by kernel_rfl) ?_
        obtain rfl := Option.some.inj h
        exact ⟨rfl, Le.refl _ _⟩
      · replace h := cond_f hb h
        clear hb
        refine awp_exit ?_
        refine then_exit ?_
        obtain rfl := Option.some.inj h
        exact ⟨(by intro hh; cases hh), rfl, le_restrict_eq [1, 2, 7, 8] [22] (by kernel_rfl) (no_hand hΓ)⟩
    · clear hx7
      rintro e st' ⟨rfl, hl8⟩
      refine block_here ?_
      refine then_normal ?_
      refine awp_le hl8 ?_
      refine awp_seq ?_
      obtain ⟨x11, hx11, h⟩ := bind_some h
      refine awp_join (fun (l9 : List (List (Int))) (e : Exit) (st : St) => e = .normal ∧ Le Γ st (⟨[(1, (.int .u8 a_p1)), (2, (.bool a_p2)), (7, (Q292 a_n)), (8, (.vsl 22 l9.length))], [(22, .arr 1 22 l9.length (fun i => eLI64 (l9.getD i [])))], []⟩ : St)) hx11 ?_ ?_
      · clear h hx11
        intro y h
        refine rgs0 (⟨[(1, (.int .u8 a_p1)), (2, (.bool a_p2)), (7, (Q292 a_n)), (8, (.vsl 22 x7.length)), (35, (.bool a_p2))], [(22, .arr 1 22 x7.length (fun i => eLI64 (x7.getD i [])))], []⟩ : St) hn mix (no_hand hΓ) (by kernel_rfl) ?_
        refine awp_cond a_p2 (by kernel_rfl) (fun hb => ?_) (fun hb => ?_)
        · replace h := cond_t hb h
          clear hb
          obtain ⟨hc10, h⟩ := chk_some h
          refine rg [] [(39, (AV.list 1 eI64 (0 : Int) ([(0 : Int)] : List (Int)) .none))] (⟨[(1, (.int .u8 a_p1)), (2, (.bool a_p2)), (7, (Q292 a_n)), (8, (.vsl 22 x7.length))], [(22, .arr 1 22 x7.length (fun i_ => AV.eraseAll (fun n_ => memB n_ [22]) ((putF (fun i => eLI64 (x7.getD i [])) ((w64 ((Q284 a_n) - (1 : Int)))).toNat 0 [(AV.list 1 eI64 (0 : Int) ([(0 : Int)] : List (Int)) .none)]) i_)))], []⟩ : St) [(AVle (.slice 1 1 (fun i => ([[(.int .i64 (0 : Int))]] : List (List AV)).getD i []) .exact) (AV.list 1 eI64 (0 : Int) ([(0 : Int)] : List (Int)) .none)), (InB (w64 ((Q284 a_n) - (1 : Int))) x7.length), (x7.length = x7.length)] hn mix (no_hand hΓ) (by kernel_rfl) ⟨(fun _ _ _ _ _ hh => AVle.untag _ _ _ _ _ ((av_lit rfl (fun i hi => map_get (e := eI64) (d := (0 : Int)) ([(0 : Int)] : List (Int)) i hi)) _ _ _ _ _ hh)), hc10, rfl, trivial⟩ ?_
          obtain rfl := Option.some.inj h
          exact ⟨rfl, Le.trans (Le.trans (le_of (st' := (⟨[(1, (.int .u8 a_p1)), (2, (.bool a_p2)), (7, (Q292 a_n)), (8, (.vsl 22 x7.length))], [(22, .arr 1 22 x7.length (fun i => eLI64 ((Q294 x7 a_n).getD i [])))], []⟩ : St)) (TmpsLe.refl _) (.arr (leL_of_eq (List.length_set ..).symm (fun k_ hk_ => (congrArg (AV.eraseAll (fun n_ => memB n_ [22])) ((putF_set (fun _ _ => rfl) (inB_lt0 hc10) rfl) k_ hk_)).trans rfl)) .nil)) (le_eq (congrArg (fun k_ : Nat => (⟨[(1, (.int .u8 a_p1)), (2, (.bool a_p2)), (7, (Q292 a_n)), (8, (.vsl 22 k_))], [(22, .arr 1 22 k_ (fun i => eLI64 ((Q294 x7 a_n).getD i [])))], []⟩ : St)) (show x7.length = (Q294 x7 a_n).length from (List.length_set ..).symm)))) (Le.refl _ _)⟩
        · replace h := cond_f hb h
          clear hb
          refine awp_skip ?_
          obtain rfl := Option.some.inj h
          exact ⟨rfl, le_restrict_eq [1, 2, 7, 8] [22] (by kernel_rfl) (no_hand hΓ)⟩
      · clear hx11
        rintro e st' ⟨rfl, hl12⟩
        refine then_normal ?_
        refine awp_le hl12 ?_
        refine awp_seq ?_
        refine awp_le (Le.trans (le_freeze (nm := 22) (sz := 1) (n := x11.length) (e := 22) (f := (fun i => eLI64 (x11.getD i []))) (g := (fun i => eLI64 (x11.getD i []))) rfl ⟨rfl, trivial⟩ (fun _ _ => rfl) (by rw [hΓ]; rfl)) (le_eq (st' := (⟨[(1, (.int .u8 a_p1)), (2, (.bool a_p2)), (7, (Q292 a_n)), (8, (AV.list 1 eLI64 [] x11 (.own 22)))], [(22, .tok 1 22 x11.length)], []⟩ : St)) (by kernel_rfl))) ?_
        obtain ⟨x13, hx13, h⟩ := bind_some h
        refine rg [⟨[], [], (.tuple [(.agg (eTGraph x13.1)), (Q289 x13)]), []⟩] [] (⟨[(1, (.int .u8 a_p1)), (2, (.bool a_p2)), (7, (Q292 a_n)), (10, (.ptr 10 0)), (11, (Q289 x13))], [(10, .row 30 (Q285 x13))], []⟩ : St) [(Spec Try.prog 16 [(AV.list 1 eLI64 [] x11 .none)] [] (.tuple [(.agg (eTGraph x13.1)), (Q289 x13)]) [])] hn mix (no_hand hΓ) (by kernel_rfl) ⟨(ok_graph_Make x11 x13 hx13), trivial⟩ ?_
        refine then_normal ?_
        obtain ⟨hc14, h⟩ := chk_some h
        refine rgs [] [] (⟨[(2, (.bool a_p2)), (7, (Q292 a_n)), (10, (.ptr 10 0)), (11, (Q289 x13)), (12, (Q291 a_p1 a_n))], [(10, .row 30 (Q285 x13))], []⟩ : St) [((Q284 a_n) ≠ 0)] hn mix (no_hand hΓ) (by kernel_rfl) ⟨hc14, trivial⟩ ?_
        refine rgs [] [(13, Q288)] (⟨[(2, (.bool a_p2)), (7, (Q292 a_n)), (10, (.ptr 10 0)), (11, (Q289 x13)), (12, (Q291 a_p1 a_n)), (13, Q288)], [(10, .row 30 (Q285 x13))], []⟩ : St) [(AVle (.slice 0 0 (fun _ => []) .exact) Q288)] hn mix (no_hand hΓ) (by kernel_rfl) ⟨av_nil, trivial⟩ ?_
        refine awp_seq ?_
        refine rgs0 (Q298 a_p2 a_n x13 a_p1) hn mix (no_hand hΓ) (by kernel_rfl) ?_
        refine awp_block ?_
        refine awp_le (st' := (fun ((l15, i16) : (List (Int) × Int)) => (Q297 a_p2 a_n x13 a_p1 l15 i16)) (([] : List Int), (0 : Int))) (Le.trans (le_restrict_eq (st' := (Q298 a_p2 a_n x13 a_p1)) [2, 7, 10, 11, 12, 13, 14] [10] (by kernel_rfl) (no_hand hΓ)) (Le.trans (le_tag (t := 13) (nm := 5013) (sz' := 1) (fun i => eI64 (([] : List Int).getD i (0 : Int))) 3 rfl rfl (.inl ⟨rfl, rfl⟩) (fun h_ => absurd h_ (by decide))) (le_restrict_eq (st' := (⟨[(2, (.bool a_p2)), (7, (Q292 a_n)), (10, (.ptr 10 0)), (11, (Q289 x13)), (12, (Q291 a_p1 a_n)), (13, (AV.list 1 eI64 (0 : Int) ([] : List Int) (.own 5013))), (14, (.int .i64 (0 : Int)))], [(10, .row 30 (Q285 x13)), (5013, .tok 1 3 (([] : List Int).length))], []⟩ : St)) [2, 7, 10, 11, 12, 13, 14] [10, 5013] (by kernel_rfl) (no_hand hΓ)))) ?_
        obtain ⟨x23, hx23, h⟩ := bind_some h
        refine awp_loop (fun ((l15, i16) : (List (Int) × Int)) => (Q297 a_p2 a_n x13 a_p1 l15 i16)) _ (fun (l17 : List (Int)) (e : Exit) (st : St) => e = (.exit 2) ∧ Le Γ st (⟨[(10, (.ptr 10 0)), (11, (Q289 x13)), (12, (Q291 a_p1 a_n)), (13, (AV.list 1 eI64 (0 : Int) l17 (.own 5013)))], [(10, .row 30 (Q285 x13)), (5013, .tok 1 3 l17.length)], []⟩ : St)) ?_ hx23 ?_
        · rintro ⟨l15, i16⟩ y h
          unfold m_locksteplaw06_GraphLine_L2 at h
          refine awp_seq ?_
          refine rgs0 (⟨[(2, (.bool a_p2)), (7, (Q292 a_n)), (10, (.ptr 10 0)), (11, (Q289 x13)), (12, (Q291 a_p1 a_n)), (13, (AV.list 1 eI64 (0 : Int) l15 (.own 5013))), (14, (.int .i64 i16)), (52, (.bool (decide ((i16 : Int) < (Q284 a_n)))))], [(10, .row 30 (Q285 x13)), (5013, .tok 1 3 l15.length)], []⟩ : St) hn mix (no_hand hΓ) (by kernel_rfl) ?_
          refine awp_cond (decide ((i16 : Int) < (Q284 a_n))) (by kernel_rfl) (fun hb => ?_) (fun hb => ?_)
          · replace h := cond_t hb h
            clear hb
            refine awp_skip ?_
            refine then_normal ?_
            refine awp_seq ?_
            obtain ⟨x21, hx21, h⟩ := bind_some h
            refine awp_join (fun (l18 : List (Int)) (e : Exit) (st : St) => e = .normal ∧ Le Γ st (⟨[(2, (.bool a_p2)), (7, (Q292 a_n)), (10, (.ptr 10 0)), (11, (Q289 x13)), (12, (Q291 a_p1 a_n)), (13, (AV.list 1 eI64 (0 : Int) l18 (.own 5013))), (14, (.int .i64 i16))], [(10, .row 30 (Q285 x13)), (5013, .tok 1 3 l18.length)], []⟩ : St)) hx21 ?_ ?_
            · clear h hx21
              intro y h
              refine awp_block ?_
              refine rgs [] [] (⟨[(2, (.bool a_p2)), (7, (Q292 a_n)), (10, (.ptr 10 0)), (11, (Q289 x13)), (12, (Q291 a_p1 a_n)), (13, (AV.list 1 eI64 (0 : Int) l15 (.own 5013))), (14, (.int .i64 i16)), (62, (.bool (bif a_p2 then true else (decide (((w64 ((Int.tmod (w64 a_p1) (Q284 a_n)) + i16)) : Int) < (Q284 a_n))))))], [(10, .row 30 (Q285 x13)), (5013, .tok 1 3 l15.length)], []⟩ : St) [((a_p2 == false) = true → (a_p2 == false) = true), ((a_p2 == false) = true → (a_p2 == false) = true), ((a_p2 == false) = true → (a_p2 == false) = true), ((a_p2 == false) = true → (a_p2 == false) = true), (a_p2 = false → (a_p2 == false) = true)] hn mix (no_hand hΓ) (by kernel_rfl) ⟨(fun hg => hg), (fun hg => hg), (fun hg => hg), (fun hg => hg), gF, trivial⟩ ?_
              refine awp_cond (bif a_p2 then true else (decide (((w64 ((Int.tmod (w64 a_p1) (Q284 a_n)) + i16)) : Int) < (Q284 a_n)))) (by kernel_rfl) (fun hb => ?_) (fun hb => ?_)
              · replace h := cond_t hb h
                clear hb
                obtain ⟨hc19, h⟩ := chk_some h
                obtain ⟨hc20, h⟩ := chk_some h
                refine rg [] [(69, (AV.list 1 eI64 (0 : Int) (Q290 a_p1 a_n i16) .exact)), (70, (AV.list 1 eI64 (0 : Int) (l15 ++ (Q290 a_p1 a_n i16)) (.own 5013)))] (⟨[(2, (.bool a_p2)), (7, (Q292 a_n)), (10, (.ptr 10 0)), (11, (Q289 x13)), (12, (Q291 a_p1 a_n)), (13, (AV.list 1 eI64 (0 : Int) (l15 ++ (Q290 a_p1 a_n i16)) (.own 5013))), (14, (.int .i64 i16))], [(10, .row 30 (Q285 x13)), (5013, .tok 1 3 ((l15 ++ (Q290 a_p1 a_n i16)).length))], []⟩ : St) [((Q284 a_n) ≠ 0), (AVle (.slice 1 1 (fun i => ([[(.int .i64 (Int.tmod (w64 ((Int.tmod (w64 a_p1) (Q284 a_n)) + i16)) (Q284 a_n)))]] : List (List AV)).getD i []) .exact) (AV.list 1 eI64 (0 : Int) (Q290 a_p1 a_n i16) .exact)), (l15.length = l15.length), (l15.length + (Q290 a_p1 a_n i16).length ≤ room), (AVle (.slice 1 (l15.length + (Q290 a_p1 a_n i16).length) (appF l15.length (fun i => eI64 (l15.getD i (0 : Int))) (fun i => eI64 ((Q290 a_p1 a_n i16).getD i (0 : Int)))) (.own 5013)) (AV.list 1 eI64 (0 : Int) (l15 ++ (Q290 a_p1 a_n i16)) (.own 5013))), (l15.length + (Q290 a_p1 a_n i16).length = (l15 ++ (Q290 a_p1 a_n i16)).length)] hn mix (no_hand hΓ) (by kernel_rfl) ⟨hc19, (av_lit rfl (fun i hi => map_get (e := eI64) (d := (0 : Int)) (Q290 a_p1 a_n i16) i hi)), rfl, hc20, av_app, (len_app _ _), trivial⟩ ?_
                refine block_normal ?_
                obtain rfl := Option.some.inj h
                exact ⟨rfl, Le.refl _ _⟩
              · replace h := cond_f hb h
                clear hb
                refine awp_skip ?_
                refine block_normal ?_
                obtain rfl := Option.some.inj h
                exact ⟨rfl, le_restrict_eq [2, 7, 10, 11, 12, 13, 14] [10, 5013] (by kernel_rfl) (no_hand hΓ)⟩
            · clear hx21
              rintro e st' ⟨rfl, hl22⟩
              refine then_normal ?_
              refine awp_le hl22 ?_
              refine rg0 (⟨[(2, (.bool a_p2)), (7, (Q292 a_n)), (10, (.ptr 10 0)), (11, (Q289 x13)), (12, (Q291 a_p1 a_n)), (13, (AV.list 1 eI64 (0 : Int) x21 (.own 5013))), (14, (.int .i64 (w64 (i16 + (1 : Int)))))], [(10, .row 30 (Q285 x13)), (5013, .tok 1 3 x21.length)], []⟩ : St) hn mix (no_hand hΓ) (by kernel_rfl) ?_
              obtain rfl := Option.some.inj h
              exact ⟨rfl, Le.refl _ _⟩
          · replace h := cond_f hb h
            clear hb
            refine awp_exit ?_
            refine then_exit ?_
            obtain rfl := Option.some.inj h
            exact ⟨(by intro hh; cases hh), rfl, le_restrict_eq [10, 11, 12, 13] [10, 5013] (by kernel_rfl) (no_hand hΓ)⟩
        · clear hx23
          rintro e st' ⟨rfl, hl24⟩
          refine block_here ?_
          refine then_normal ?_
          refine awp_le hl24 ?_
          obtain ⟨x25, hx25, h⟩ := bind_some h
          obtain ⟨x26, hx26, h⟩ := bind_some h
          obtain ⟨x27, hx27, h⟩ := bind_some h
          refine rgs [⟨[], [], (.bool x25), []⟩, ⟨[], [], (AV.list 1 eI64 (0 : Int) x26 .none), []⟩, ⟨[], [], (.bool x27), []⟩] [] (⟨[(6, (.bool (bif (bif (Q295 x13) then x25 else false) then x27 else false)))], [], []⟩ : St) [(((Q295 x13) == true) = true → ((Q295 x13) == true) = true), (((Q295 x13) == true) = true → (Spec Try.prog 18 [(.agg (eTGraph x13.1))] [] (.bool x25) [])), ((Q295 x13) = true → ((Q295 x13) == true) = true), ((Q286 x13 x25) = true → (Q286 x13 x25) = true), ((Q286 x13 x25) = true → (Q286 x13 x25) = true), ((Q286 x13 x25) = true → (Spec Try.prog 20 [(.agg (eTGraph x13.1)), (Q291 a_p1 a_n)] [] (AV.list 1 eI64 (0 : Int) x26 .none) [])), ((Q286 x13 x25) = true → (Q286 x13 x25) = true), ((Q286 x13 x25) = true → (Q286 x13 x25) = true), ((Q286 x13 x25) = true → (Spec Try.prog 19 [(AV.list 1 eI64 (0 : Int) x26 .none), (AV.list 1 eI64 (0 : Int) x23 .none)] [] (.bool x27) [])), ((bif (Q295 x13) then x25 else false) = true → (Q286 x13 x25) = true)] hn mix (no_hand hΓ) (by kernel_rfl) ⟨(fun hg => hg), (fun hg => (ok_lockstepref06_May x13.1 x25 (cond_t hg hx25))), gT, (fun hg => hg), (fun hg => hg), (fun hg => (Spec.drop (ok_graph_Order x13.1 (Int.tmod (w64 a_p1) (Q284 a_n)) x26 (cond_t hg hx26)))), (fun hg => hg), (fun hg => hg), (fun hg => (ok_lockstepref02_Ints x26 x23 x27 (cond_t hg hx27))), gT, trivial⟩ ?_
          refine awp_ret ?_
          obtain rfl := Option.some.inj h
          exact ⟨.inl rfl, [], by kernel_rfl⟩
end Go.Proofs.Ytcpopeamoipjlaa
