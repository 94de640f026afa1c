/-
  What the functions compute, and that they do (part 3 of 3).
-/
import Derived.Test.YtmlldiinidkecaaGenb
namespace Go.Proofs.Ytmlldiinidkecaa
open Go Go.RowKit
set_option linter.unusedVariables false
set_option maxRecDepth 100000
set_option maxHeartbeats 2000000
noncomputable def Q313 (a_a : TOp) (a_b : TOp) := ((a_a.Dst : Int) == a_b.Dst)
noncomputable def Q315 (a_a : TOp) (a_b : TOp) := ((a_a.Imm : Int) == a_b.Imm)
noncomputable def Q314 (a_a : TOp) (a_b : TOp) := (((a_a.Kind : Int) == a_b.Kind) == true)
noncomputable def Q309 (a_a : TOp) (a_b : TOp) := (bif (bif ((a_a.Kind : Int) == a_b.Kind) then ((a_a.Bits : Int) == a_b.Bits) else false) then ((a_a.Lanes : Int) == a_b.Lanes) else false)
noncomputable def Q316 (a_a : TOp) (a_b : TOp) := (bif (Q309 a_a a_b) then (Q313 a_a a_b) else false)
noncomputable def Q317 (a_a : TOp) (a_b : TOp) := ((bif (Q316 a_a a_b) then (Q315 a_a a_b) else false) == true)
noncomputable def Q312 (a_a : TOp) (a_b : TOp) := ((bif ((a_a.Kind : Int) == a_b.Kind) then ((a_a.Bits : Int) == a_b.Bits) else false) == true)
noncomputable def Q310 (a_a : TOp) : List AV := [(.int .i64 a_a.Kind), (.int .i64 a_a.Bits), (.int .i64 a_a.Lanes), (.int .i64 a_a.Dst), (AV.list 1 eI64 (0 : Int) a_a.Args .none), (.int .u64 a_a.Imm)]
noncomputable def Q311 (a_b : TOp) : List AV := [(.int .i64 a_b.Kind), (.int .i64 a_b.Bits), (.int .i64 a_b.Lanes), (.int .i64 a_b.Dst), (AV.list 1 eI64 (0 : Int) a_b.Args .none), (.int .u64 a_b.Imm)]
noncomputable def m_kind_Same (a_a : TOp) (a_b : TOp) : Option Bool :=
  ((bif ((bif (bif (bif (bif ((a_a.Kind : Int) == a_b.Kind) then ((a_a.Bits : Int) == a_b.Bits) else false) then ((a_a.Lanes : Int) == a_b.Lanes) else false) then ((a_a.Dst : Int) == a_b.Dst) else false) then ((a_a.Imm : Int) == a_b.Imm) else false) == true) then m_slices_Equal_int_int a_a.Args a_b.Args else some false).bind fun x1 => (some (bif (bif (bif (bif (bif ((a_a.Kind : Int) == a_b.Kind) then ((a_a.Bits : Int) == a_b.Bits) else false) then ((a_a.Lanes : Int) == a_b.Lanes) else false) then ((a_a.Dst : Int) == a_b.Dst) else false) then ((a_a.Imm : Int) == a_b.Imm) else false) then x1 else false)))
theorem ok_kind_Same (a_a : TOp) (a_b : TOp) (r : Bool) (h : m_kind_Same a_a a_b = some r) : Spec Try.prog 52 [(.agg (eTOp a_a)), (.agg (eTOp a_b))] [] (.bool r) [] := by
  refine spec_of_awp (fn := Try.f52) Try.func52 rfl rfl (by kernel_rfl) (fun Γ hn hΓ => ?_)
  have hn : Γ.n = 45 := hn
  unfold m_kind_Same at h
  refine awp_seq ?_
  refine awp_region (rs := []) (cs := []) (live := [2, 3]) (names := [2, 3]) (st' := (⟨[(2, (.ptr 2 0)), (3, (.ptr 3 0))], [(2, .row (Q310 a_a)), (3, .row (Q311 a_b))]⟩ : St)) (obs := []) hn mix (no_hand hΓ) (by kernel_rfl) trivial ?_
  refine then_normal ?_
  refine awp_seq ?_
  obtain ⟨x1, hx1, h⟩ := bind_some h
  refine awp_region (rs := [⟨[], [], (.bool x1), []⟩]) (cs := []) (live := [4]) (names := []) (st' := (⟨[(4, (.bool (bif (bif (Q316 a_a a_b) then (Q315 a_a a_b) else false) then x1 else false)))], []⟩ : St)) (obs := [(0 < List.length (α := AV) (Q310 a_a)), (0 < List.length (α := AV) (Q311 a_b)), ((Q314 a_a a_b) = true → (Q314 a_a a_b) = true), ((Q314 a_a a_b) = true → (1 < List.length (α := AV) (Q310 a_a))), ((Q314 a_a a_b) = true → (Q314 a_a a_b) = true), ((Q314 a_a a_b) = true → (1 < List.length (α := AV) (Q311 a_b))), ((Q314 a_a a_b) = true → (Q314 a_a a_b) = true), ((Q314 a_a a_b) = true → (Q314 a_a a_b) = true), (((a_a.Kind : Int) == a_b.Kind) = true → (Q314 a_a a_b) = true), ((Q312 a_a a_b) = true → (Q312 a_a a_b) = true), ((Q312 a_a a_b) = true → (2 < List.length (α := AV) (Q310 a_a))), ((Q312 a_a a_b) = true → (Q312 a_a a_b) = true), ((Q312 a_a a_b) = true → (2 < List.length (α := AV) (Q311 a_b))), ((Q312 a_a a_b) = true → (Q312 a_a a_b) = true), ((Q312 a_a a_b) = true → (Q312 a_a a_b) = true), ((bif ((a_a.Kind : Int) == a_b.Kind) then ((a_a.Bits : Int) == a_b.Bits) else false) = true → (Q312 a_a a_b) = true), (((Q309 a_a a_b) == true) = true → ((Q309 a_a a_b) == true) = true), (((Q309 a_a a_b) == true) = true → (3 < List.length (α := AV) (Q310 a_a))), (((Q309 a_a a_b) == true) = true → ((Q309 a_a a_b) == true) = true), (((Q309 a_a a_b) == true) = true → (3 < List.length (α := AV) (Q311 a_b))), (((Q309 a_a a_b) == true) = true → ((Q309 a_a a_b) == true) = true), (((Q309 a_a a_b) == true) = true → ((Q309 a_a a_b) == true) = true), ((Q309 a_a a_b) = true → ((Q309 a_a a_b) == true) = true), (((Q316 a_a a_b) == true) = true → ((Q316 a_a a_b) == true) = true), (((Q316 a_a a_b) == true) = true → (5 < List.length (α := AV) (Q310 a_a))), (((Q316 a_a a_b) == true) = true → ((Q316 a_a a_b) == true) = true), (((Q316 a_a a_b) == true) = true → (5 < List.length (α := AV) (Q311 a_b))), (((Q316 a_a a_b) == true) = true → ((Q316 a_a a_b) == true) = true), (((Q316 a_a a_b) == true) = true → ((Q316 a_a a_b) == true) = true), ((Q316 a_a a_b) = true → ((Q316 a_a a_b) == true) = true), ((Q317 a_a a_b) = true → (Q317 a_a a_b) = true), ((Q317 a_a a_b) = true → (4 < List.length (α := AV) (Q310 a_a))), ((Q317 a_a a_b) = true → (Q317 a_a a_b) = true), ((Q317 a_a a_b) = true → (4 < List.length (α := AV) (Q311 a_b))), ((Q317 a_a a_b) = true → (Q317 a_a a_b) = true), ((Q317 a_a a_b) = true → (Q317 a_a a_b) = true), ((Q317 a_a a_b) = true → (Spec Try.prog 36 [(AV.list 1 eI64 (0 : Int) a_a.Args .none), (AV.list 1 eI64 (0 : Int) a_b.Args .none)] [] (.bool x1) [])), ((bif (Q316 a_a a_b) then (Q315 a_a a_b) else false) = true → (Q317 a_a a_b) = true)]) hn mix (no_hand hΓ) (by kernel_rfl) ⟨(nl rfl), (nl rfl), (fun hg => hg), (fun hg => (nl rfl)), (fun hg => hg), (fun hg => (nl rfl)), (fun hg => hg), (fun hg => hg), gT, (fun hg => hg), (fun hg => (nl rfl)), (fun hg => hg), (fun hg => (nl rfl)), (fun hg => hg), (fun hg => hg), gT, (fun hg => hg), (fun hg => (nl rfl)), (fun hg => hg), (fun hg => (nl rfl)), (fun hg => hg), (fun hg => hg), gT, (fun hg => hg), (fun hg => (nl rfl)), (fun hg => hg), (fun hg => (nl rfl)), (fun hg => hg), (fun hg => hg), gT, (fun hg => hg), (fun hg => (nl rfl)), (fun hg => hg), (fun hg => (nl rfl)), (fun hg => hg), (fun hg => hg), (fun hg => (ok_slices_Equal_int_int a_a.Args a_b.Args x1 (cond_t hg hx1))), gT, trivial⟩ ?_
  refine then_normal ?_
  refine awp_ret ?_
  obtain rfl := Option.some.inj h
  exact ⟨.inl rfl, [], by kernel_rfl⟩

noncomputable def m_slices_EqualFunc_api_Op_api_Op_api_Op_api_Op_L1 (a_s1 : List (TOp)) (a_s2 : List (TOp)) : Int → Option (LR Int (Unit ⊕ Bool)) :=
  fun (i1 : Int) => (bif (decide ((i1 : Int) < (a_s1.length : Int))) then (chk (InB i1 a_s1.length) (chk (InB i1 a_s2.length) ((m_kind_Same (a_s1.getD (i1).toNat (default : TOp)) (a_s2.getD (i1).toNat (default : TOp))).bind fun x4 => (bif (!x4) then (some (.done (.inr false))) else (some (.next (w64 (i1 + (1 : Int))))))))) else (some (.done (.inl ()))))
noncomputable def Q322 (a_s1 : List (TOp)) : AV := (.int .i64 (a_s1.length : Int))
noncomputable def Q319 (a_s2 : List (TOp)) (i1 : Int) := (a_s2.getD (i1).toNat (default : TOp))
noncomputable def Q320 (a_s1 : List (TOp)) : AV := (AV.list 6 eTOp (default : TOp) a_s1 .none)
noncomputable def Q321 (a_s2 : List (TOp)) : AV := (AV.list 6 eTOp (default : TOp) a_s2 .none)
noncomputable def Q323 : List AV := [(.int .i64 (0 : Int)), (.int .i64 (0 : Int)), (.int .i64 (0 : Int)), (.int .i64 (0 : Int)), (.slice 0 0 (fun _ => []) .exact), (.int .u64 (0 : Int))]
noncomputable def Q324 (a_s2 : List (TOp)) (i1 : Int) : List AV := [(.int .i64 (Q319 a_s2 i1).Kind), (.int .i64 (Q319 a_s2 i1).Bits), (.int .i64 (Q319 a_s2 i1).Lanes), (.int .i64 (Q319 a_s2 i1).Dst), (AV.list 1 eI64 (0 : Int) (Q319 a_s2 i1).Args .none), (.int .u64 (Q319 a_s2 i1).Imm)]
noncomputable def Q318 (a_s1 : List (TOp)) (i1 : Int) : List AV := [(.int .i64 (a_s1.getD (i1).toNat (default : TOp)).Kind), (.int .i64 (a_s1.getD (i1).toNat (default : TOp)).Bits), (.int .i64 (a_s1.getD (i1).toNat (default : TOp)).Lanes), (.int .i64 (a_s1.getD (i1).toNat (default : TOp)).Dst), (AV.list 1 eI64 (0 : Int) (a_s1.getD (i1).toNat (default : TOp)).Args .none), (.int .u64 (a_s1.getD (i1).toNat (default : TOp)).Imm)]
noncomputable def m_slices_EqualFunc_api_Op_api_Op_api_Op_api_Op (a_s1 : List (TOp)) (a_s2 : List (TOp)) : Option Bool :=
  (bif (((a_s1.length : Int) : Int) != (a_s2.length : Int)) then (some false) else ((loopO (S := Int) (X := (Unit ⊕ Bool)) (m_slices_EqualFunc_api_Op_api_Op_api_Op_api_Op_L1 a_s1 a_s2) (0 : Int)).bind (fun x5 => (match x5 with | (.inl _) => (some true) | (.inr r7) => (some r7)))))
theorem ok_slices_EqualFunc_api_Op_api_Op_api_Op_api_Op (a_s1 : List (TOp)) (a_s2 : List (TOp)) (r : Bool) (h : m_slices_EqualFunc_api_Op_api_Op_api_Op_api_Op a_s1 a_s2 = some r) : Spec Try.prog 51 [(AV.list 6 eTOp (default : TOp) a_s1 .none), (AV.list 6 eTOp (default : TOp) a_s2 .none), (.clo 52 [] [])] [] (.bool r) [] := by
  refine spec_of_awp (fn := Try.f51) Try.func51 rfl rfl (by kernel_rfl) (fun Γ hn hΓ => ?_)
  have hn : Γ.n = 32 := hn
  unfold m_slices_EqualFunc_api_Op_api_Op_api_Op_api_Op at h
  refine awp_seq ?_
  refine awp_region (rs := []) (cs := []) (live := [0, 1, 2]) (names := []) (st' := (⟨[(0, (Q320 a_s1)), (1, (Q321 a_s2)), (2, (.clo 52 [] []))], []⟩ : St)) (obs := []) hn mix (no_hand hΓ) (by kernel_rfl) trivial ?_
  refine then_normal ?_
  refine awp_seq ?_
  refine awp_seq ?_
  refine awp_region (rs := []) (cs := []) (live := [0, 1, 2, 14]) (names := []) (st' := (⟨[(0, (Q320 a_s1)), (1, (Q321 a_s2)), (2, (.clo 52 [] [])), (14, (.bool (((a_s1.length : Int) : Int) != (a_s2.length : Int))))], []⟩ : St)) (obs := []) hn mix (no_hand hΓ) (by kernel_rfl) trivial ?_
  refine then_normal ?_
  refine awp_cond (((a_s1.length : Int) : Int) != (a_s2.length : Int)) (by kernel_rfl) (fun hb => ?_) (fun hb => ?_)
  · replace h := cond_t hb h
    clear hb
    refine awp_seq ?_
    refine awp_region (rs := []) (cs := []) (live := [6]) (names := []) (st' := (⟨[(6, (.bool false))], []⟩ : St)) (obs := []) hn mix (no_hand hΓ) (by kernel_rfl) trivial ?_
    refine then_normal ?_
    refine awp_ret ?_
    refine then_ret ?_
    obtain rfl := Option.some.inj h
    exact ⟨.inl rfl, [], by kernel_rfl⟩
  · replace h := cond_f hb h
    clear hb
    refine awp_skip ?_
    refine then_normal ?_
    refine awp_seq ?_
    refine awp_seq ?_
    refine awp_region (rs := []) (cs := []) (live := [1, 2, 15, 16, 17]) (names := []) (st' := (⟨[(1, (Q321 a_s2)), (2, (.clo 52 [] [])), (15, (Q320 a_s1)), (16, (Q322 a_s1)), (17, (.int .i64 (0 : Int)))], []⟩ : St)) (obs := []) hn mix (no_hand hΓ) (by kernel_rfl) trivial ?_
    refine then_normal ?_
    refine awp_block ?_
    refine awp_le (st' := (fun (i1 : Int) => (⟨[(1, (Q321 a_s2)), (2, (.clo 52 [] [])), (15, (Q320 a_s1)), (16, (Q322 a_s1)), (17, (.int .i64 i1))], []⟩ : St)) (0 : Int)) (Le.refl _ _) ?_
    obtain ⟨x5, hx5, h⟩ := bind_some h
    refine awp_loop (fun (i1 : Int) => (⟨[(1, (Q321 a_s2)), (2, (.clo 52 [] [])), (15, (Q320 a_s1)), (16, (Q322 a_s1)), (17, (.int .i64 i1))], []⟩ : St)) _ (fun (x_ : (Unit ⊕ Bool)) (e : Exit) (st : St) => match x_ with | (.inl _) => e = (.exit 0) ∧ Le Γ st (⟨[], []⟩ : St) | (.inr r_) => e = .ret ∧ retK Try.prog Try.f51.results.toList [] (.bool r_) [] e st) ?_ hx5 ?_
    · intro i1 y h
      unfold m_slices_EqualFunc_api_Op_api_Op_api_Op_api_Op_L1 at h
      refine awp_seq ?_
      refine awp_region (rs := []) (cs := []) (live := [1, 2, 15, 16, 17, 18]) (names := []) (st' := (⟨[(1, (Q321 a_s2)), (2, (.clo 52 [] [])), (15, (Q320 a_s1)), (16, (Q322 a_s1)), (17, (.int .i64 i1)), (18, (.bool (decide ((i1 : Int) < (a_s1.length : Int)))))], []⟩ : St)) (obs := []) hn mix (no_hand hΓ) (by kernel_rfl) trivial ?_
      refine then_normal ?_
      refine awp_seq ?_
      refine awp_cond (decide ((i1 : Int) < (a_s1.length : Int))) (by kernel_rfl) (fun hb => ?_) (fun hb => ?_)
      · replace h := cond_t hb h
        clear hb
        refine awp_skip ?_
        refine then_normal ?_
        refine awp_seq ?_
        refine awp_block ?_
        refine awp_seq ?_
        obtain ⟨hc2, h⟩ := chk_some h
        refine awp_region (rs := []) (cs := []) (live := [1, 2, 7, 8, 15, 16, 17]) (names := [8]) (st' := (⟨[(1, (Q321 a_s2)), (2, (.clo 52 [] [])), (7, (.int .i64 i1)), (8, (.ptr 8 0)), (15, (Q320 a_s1)), (16, (Q322 a_s1)), (17, (.int .i64 i1))], [(8, .row (Q318 a_s1 i1))]⟩ : St)) (obs := [(InB i1 a_s1.length), (0 + List.length (α := AV) (eTOp (a_s1.getD (i1).toNat (default : TOp))) ≤ List.length (α := AV) Q323)]) hn mix (no_hand hΓ) (by kernel_rfl) ⟨hc2, (nl rfl), trivial⟩ ?_
        refine then_normal ?_
        refine awp_seq ?_
        obtain ⟨hc3, h⟩ := chk_some h
        refine awp_region (rs := []) (cs := []) (live := [1, 2, 8, 9, 15, 16, 17]) (names := [8, 9]) (st' := (⟨[(1, (Q321 a_s2)), (2, (.clo 52 [] [])), (8, (.ptr 8 0)), (9, (.ptr 9 0)), (15, (Q320 a_s1)), (16, (Q322 a_s1)), (17, (.int .i64 i1))], [(8, .row (Q318 a_s1 i1)), (9, .row (Q324 a_s2 i1))]⟩ : St)) (obs := [(InB i1 a_s2.length), (0 + List.length (α := AV) (eTOp (Q319 a_s2 i1)) ≤ List.length (α := AV) Q323)]) hn mix (no_hand hΓ) (by kernel_rfl) ⟨hc3, (nl rfl), trivial⟩ ?_
        refine then_normal ?_
        refine awp_seq ?_
        obtain ⟨x4, hx4, h⟩ := bind_some h
        refine awp_region (rs := [⟨[], [], (.bool x4), []⟩]) (cs := []) (live := [1, 2, 15, 16, 17, 30]) (names := []) (st' := (⟨[(1, (Q321 a_s2)), (2, (.clo 52 [] [])), (15, (Q320 a_s1)), (16, (Q322 a_s1)), (17, (.int .i64 i1)), (30, (.bool (!x4)))], []⟩ : St)) (obs := [(0 + 6 ≤ List.length (α := AV) (Q318 a_s1 i1)), (0 + 6 ≤ List.length (α := AV) (Q324 a_s2 i1)), (Spec Try.prog 52 [(.agg (eTOp (a_s1.getD (i1).toNat (default : TOp)))), (.agg (eTOp (Q319 a_s2 i1)))] [] (.bool x4) [])]) hn mix (no_hand hΓ) (by kernel_rfl) ⟨(nl rfl), (nl rfl), (ok_kind_Same (a_s1.getD (i1).toNat (default : TOp)) (Q319 a_s2 i1) x4 hx4), trivial⟩ ?_
        refine then_normal ?_
        refine awp_cond (!x4) (by kernel_rfl) (fun hb => ?_) (fun hb => ?_)
        · replace h := cond_t hb h
          clear hb
          refine awp_seq ?_
          refine awp_region (rs := []) (cs := []) (live := [6]) (names := []) (st' := (⟨[(6, (.bool false))], []⟩ : St)) (obs := []) hn mix (no_hand hΓ) (by kernel_rfl) trivial ?_
          refine then_normal ?_
          refine awp_ret ?_
          refine block_ret ?_
          refine then_ret ?_
          obtain rfl := Option.some.inj h
          exact ⟨(by intro hh; cases hh), rfl, ⟨.inl rfl, [], by kernel_rfl⟩⟩
        · replace h := cond_f hb h
          clear hb
          refine awp_skip ?_
          refine block_normal ?_
          refine then_normal ?_
          refine awp_region (rs := []) (cs := []) (live := [1, 2, 15, 16, 17]) (names := []) (st' := (⟨[(1, (Q321 a_s2)), (2, (.clo 52 [] [])), (15, (Q320 a_s1)), (16, (Q322 a_s1)), (17, (.int .i64 (w64 (i1 + (1 : Int)))))], []⟩ : St)) (obs := []) hn mix (no_hand hΓ) (by kernel_rfl) trivial ?_
          obtain rfl := Option.some.inj h
          exact ⟨rfl, Le.refl _ _⟩
      · replace h := cond_f hb h
        clear hb
        refine awp_exit ?_
        refine then_exit ?_
        obtain rfl := Option.some.inj h
        exact ⟨(by intro hh; cases hh), rfl, le_restrict_eq [] [] (by kernel_rfl) (no_hand hΓ)⟩
    · clear hx5
      rcases x5 with _ | r7
      · rintro e st' ⟨rfl, hl6⟩
        refine block_here ?_
        refine then_normal ?_
        refine awp_le hl6 ?_
        refine awp_seq ?_
        refine awp_region (rs := []) (cs := []) (live := [6]) (names := []) (st' := (⟨[(6, (.bool true))], []⟩ : St)) (obs := []) hn mix (no_hand hΓ) (by kernel_rfl) trivial ?_
        refine then_normal ?_
        refine awp_ret ?_
        obtain rfl := Option.some.inj h
        exact ⟨.inl rfl, [], by kernel_rfl⟩
      · rintro e st' ⟨rfl, hk⟩
        refine block_ret ?_
        refine then_ret ?_
        obtain rfl := Option.some.inj h
        exact hk

noncomputable def Q325 (a_a : TEnd) (a_b : TEnd) := (bif ((a_a.Kind : Int) == a_b.Kind) then ((a_a.Arg : Int) == a_b.Arg) else false)
noncomputable def Q329 (a_a : TEnd) (a_b : TEnd) := ((Q325 a_a a_b) == true)
noncomputable def Q326 (a_a : TEnd) (a_b : TEnd) := (((a_a.Kind : Int) == a_b.Kind) == true)
noncomputable def Q327 (a_a : TEnd) : List AV := [(.int .i64 a_a.Kind), (.int .i64 a_a.Arg), (AV.list 1 eI64 (0 : Int) a_a.To .none)]
noncomputable def Q328 (a_b : TEnd) : List AV := [(.int .i64 a_b.Kind), (.int .i64 a_b.Arg), (AV.list 1 eI64 (0 : Int) a_b.To .none)]
noncomputable def m_code_sameEnd (a_a : TEnd) (a_b : TEnd) : Option Bool :=
  ((bif ((bif ((a_a.Kind : Int) == a_b.Kind) then ((a_a.Arg : Int) == a_b.Arg) else false) == true) then m_slices_Equal_int_int a_a.To a_b.To else some false).bind fun x1 => (some (bif (bif ((a_a.Kind : Int) == a_b.Kind) then ((a_a.Arg : Int) == a_b.Arg) else false) then x1 else false)))
theorem ok_code_sameEnd (a_a : TEnd) (a_b : TEnd) (r : Bool) (h : m_code_sameEnd a_a a_b = some r) : Spec Try.prog 53 [(.agg (eTEnd a_a)), (.agg (eTEnd a_b))] [] (.bool r) [] := by
  refine spec_of_awp (fn := Try.f53) Try.func53 rfl rfl (by kernel_rfl) (fun Γ hn hΓ => ?_)
  have hn : Γ.n = 24 := hn
  unfold m_code_sameEnd at h
  refine awp_seq ?_
  refine awp_region (rs := []) (cs := []) (live := [2, 3]) (names := [2, 3]) (st' := (⟨[(2, (.ptr 2 0)), (3, (.ptr 3 0))], [(2, .row (Q327 a_a)), (3, .row (Q328 a_b))]⟩ : St)) (obs := []) hn mix (no_hand hΓ) (by kernel_rfl) trivial ?_
  refine then_normal ?_
  refine awp_seq ?_
  obtain ⟨x1, hx1, h⟩ := bind_some h
  refine awp_region (rs := [⟨[], [], (.bool x1), []⟩]) (cs := []) (live := [4]) (names := []) (st' := (⟨[(4, (.bool (bif (Q325 a_a a_b) then x1 else false)))], []⟩ : St)) (obs := [(0 < List.length (α := AV) (Q327 a_a)), (0 < List.length (α := AV) (Q328 a_b)), ((Q326 a_a a_b) = true → (Q326 a_a a_b) = true), ((Q326 a_a a_b) = true → (1 < List.length (α := AV) (Q327 a_a))), ((Q326 a_a a_b) = true → (Q326 a_a a_b) = true), ((Q326 a_a a_b) = true → (1 < List.length (α := AV) (Q328 a_b))), ((Q326 a_a a_b) = true → (Q326 a_a a_b) = true), ((Q326 a_a a_b) = true → (Q326 a_a a_b) = true), (((a_a.Kind : Int) == a_b.Kind) = true → (Q326 a_a a_b) = true), ((Q329 a_a a_b) = true → (Q329 a_a a_b) = true), ((Q329 a_a a_b) = true → (2 < List.length (α := AV) (Q327 a_a))), ((Q329 a_a a_b) = true → (Q329 a_a a_b) = true), ((Q329 a_a a_b) = true → (2 < List.length (α := AV) (Q328 a_b))), ((Q329 a_a a_b) = true → (Q329 a_a a_b) = true), ((Q329 a_a a_b) = true → (Q329 a_a a_b) = true), ((Q329 a_a a_b) = true → (Spec Try.prog 36 [(AV.list 1 eI64 (0 : Int) a_a.To .none), (AV.list 1 eI64 (0 : Int) a_b.To .none)] [] (.bool x1) [])), ((Q325 a_a a_b) = true → (Q329 a_a a_b) = true)]) hn mix (no_hand hΓ) (by kernel_rfl) ⟨(nl rfl), (nl rfl), (fun hg => hg), (fun hg => (nl rfl)), (fun hg => hg), (fun hg => (nl rfl)), (fun hg => hg), (fun hg => hg), gT, (fun hg => hg), (fun hg => (nl rfl)), (fun hg => hg), (fun hg => (nl rfl)), (fun hg => hg), (fun hg => hg), (fun hg => (ok_slices_Equal_int_int a_a.To a_b.To x1 (cond_t hg hx1))), gT, trivial⟩ ?_
  refine then_normal ?_
  refine awp_ret ?_
  obtain rfl := Option.some.inj h
  exact ⟨.inl rfl, [], by kernel_rfl⟩

noncomputable def Q332 (x1 : Bool) (x2 : Bool) := ((bif x1 then x2 else false) == true)
noncomputable def Q330 (a_a : TBlock) : List AV := [(AV.list 4 eTPhi (default : TPhi) a_a.Phis .none), (AV.list 6 eTOp (default : TOp) a_a.Ops .none), (.int .i64 a_a.End.Kind), (.int .i64 a_a.End.Arg), (AV.list 1 eI64 (0 : Int) a_a.End.To .none)]
noncomputable def Q331 (a_b : TBlock) : List AV := [(AV.list 4 eTPhi (default : TPhi) a_b.Phis .none), (AV.list 6 eTOp (default : TOp) a_b.Ops .none), (.int .i64 a_b.End.Kind), (.int .i64 a_b.End.Arg), (AV.list 1 eI64 (0 : Int) a_b.End.To .none)]
noncomputable def m_code_sameBlock (a_a : TBlock) (a_b : TBlock) : Option Bool :=
  ((m_slices_EqualFunc_api_Phi_api_Phi_api_Phi_api_Phi a_a.Phis a_b.Phis).bind fun x1 => ((bif (x1 == true) then m_slices_EqualFunc_api_Op_api_Op_api_Op_api_Op a_a.Ops a_b.Ops else some false).bind fun x2 => ((bif ((bif x1 then x2 else false) == true) then m_code_sameEnd (⟨a_a.End.Kind, a_a.End.Arg, a_a.End.To⟩ : TEnd) (⟨a_b.End.Kind, a_b.End.Arg, a_b.End.To⟩ : TEnd) else some false).bind fun x3 => (some (bif (bif x1 then x2 else false) then x3 else false)))))
theorem ok_code_sameBlock (a_a : TBlock) (a_b : TBlock) (r : Bool) (h : m_code_sameBlock a_a a_b = some r) : Spec Try.prog 38 [(.agg (eTBlock a_a)), (.agg (eTBlock a_b))] [] (.bool r) [] := by
  refine spec_of_awp (fn := Try.f38) Try.func38 rfl rfl (by kernel_rfl) (fun Γ hn hΓ => ?_)
  have hn : Γ.n = 24 := hn
  unfold m_code_sameBlock at h
  refine awp_seq ?_
  refine awp_region (rs := []) (cs := []) (live := [2, 3]) (names := [2, 3]) (st' := (⟨[(2, (.ptr 2 0)), (3, (.ptr 3 0))], [(2, .row (Q330 a_a)), (3, .row (Q331 a_b))]⟩ : St)) (obs := []) hn mix (no_hand hΓ) (by kernel_rfl) trivial ?_
  refine then_normal ?_
  refine awp_seq ?_
  obtain ⟨x1, hx1, h⟩ := bind_some h
  obtain ⟨x2, hx2, h⟩ := bind_some h
  obtain ⟨x3, hx3, h⟩ := bind_some h
  refine awp_region (rs := [⟨[], [], (.bool x1), []⟩, ⟨[], [], (.bool x2), []⟩, ⟨[], [], (.bool x3), []⟩]) (cs := []) (live := [4]) (names := []) (st' := (⟨[(4, (.bool (bif (bif x1 then x2 else false) then x3 else false)))], []⟩ : St)) (obs := [(0 < List.length (α := AV) (Q330 a_a)), (0 < List.length (α := AV) (Q331 a_b)), (Spec Try.prog 49 [(AV.list 4 eTPhi (default : TPhi) a_a.Phis .none), (AV.list 4 eTPhi (default : TPhi) a_b.Phis .none), (.clo 50 [] [])] [] (.bool x1) []), ((x1 == true) = true → (x1 == true) = true), ((x1 == true) = true → (1 < List.length (α := AV) (Q330 a_a))), ((x1 == true) = true → (x1 == true) = true), ((x1 == true) = true → (1 < List.length (α := AV) (Q331 a_b))), ((x1 == true) = true → (x1 == true) = true), ((x1 == true) = true → (x1 == true) = true), ((x1 == true) = true → (Spec Try.prog 51 [(AV.list 6 eTOp (default : TOp) a_a.Ops .none), (AV.list 6 eTOp (default : TOp) a_b.Ops .none), (.clo 52 [] [])] [] (.bool x2) [])), (x1 = true → (x1 == true) = true), ((Q332 x1 x2) = true → (Q332 x1 x2) = true), ((Q332 x1 x2) = true → (2 + 3 ≤ List.length (α := AV) (Q330 a_a))), ((Q332 x1 x2) = true → (Q332 x1 x2) = true), ((Q332 x1 x2) = true → (2 + 3 ≤ List.length (α := AV) (Q331 a_b))), ((Q332 x1 x2) = true → (Q332 x1 x2) = true), ((Q332 x1 x2) = true → (Q332 x1 x2) = true), ((Q332 x1 x2) = true → (Spec Try.prog 53 [(.agg [(.int .i64 a_a.End.Kind), (.int .i64 a_a.End.Arg), (AV.list 1 eI64 (0 : Int) a_a.End.To .none)]), (.agg [(.int .i64 a_b.End.Kind), (.int .i64 a_b.End.Arg), (AV.list 1 eI64 (0 : Int) a_b.End.To .none)])] [] (.bool x3) [])), ((bif x1 then x2 else false) = true → (Q332 x1 x2) = true)]) hn mix (no_hand hΓ) (by kernel_rfl) ⟨(nl rfl), (nl rfl), (ok_slices_EqualFunc_api_Phi_api_Phi_api_Phi_api_Phi a_a.Phis a_b.Phis x1 hx1), (fun hg => hg), (fun hg => (nl rfl)), (fun hg => hg), (fun hg => (nl rfl)), (fun hg => hg), (fun hg => hg), (fun hg => (ok_slices_EqualFunc_api_Op_api_Op_api_Op_api_Op a_a.Ops a_b.Ops x2 (cond_t hg hx2))), gT, (fun hg => hg), (fun hg => (nl rfl)), (fun hg => hg), (fun hg => (nl rfl)), (fun hg => hg), (fun hg => hg), (fun hg => (ok_code_sameEnd (⟨a_a.End.Kind, a_a.End.Arg, a_a.End.To⟩ : TEnd) (⟨a_b.End.Kind, a_b.End.Arg, a_b.End.To⟩ : TEnd) x3 (cond_t hg hx3))), gT, trivial⟩ ?_
  refine then_normal ?_
  refine awp_ret ?_
  obtain rfl := Option.some.inj h
  exact ⟨.inl rfl, [], by kernel_rfl⟩

noncomputable def m_slices_EqualFunc_api_Block_api_Block_api_Block_api_Block_L1 (a_s1 : List (TBlock)) (a_s2 : List (TBlock)) : Int → Option (LR Int (Unit ⊕ Bool)) :=
  fun (i1 : Int) => (bif (decide ((i1 : Int) < (a_s1.length : Int))) then (chk (InB i1 a_s1.length) (chk (InB i1 a_s2.length) ((m_code_sameBlock (a_s1.getD (i1).toNat (default : TBlock)) (a_s2.getD (i1).toNat (default : TBlock))).bind fun x4 => (bif (!x4) then (some (.done (.inr false))) else (some (.next (w64 (i1 + (1 : Int))))))))) else (some (.done (.inl ()))))
noncomputable def Q337 (a_s1 : List (TBlock)) : AV := (.int .i64 (a_s1.length : Int))
noncomputable def Q334 (a_s2 : List (TBlock)) (i1 : Int) := (a_s2.getD (i1).toNat (default : TBlock))
noncomputable def Q335 (a_s1 : List (TBlock)) : AV := (AV.list 5 eTBlock (default : TBlock) a_s1 .none)
noncomputable def Q336 (a_s2 : List (TBlock)) : AV := (AV.list 5 eTBlock (default : TBlock) a_s2 .none)
noncomputable def Q338 : List AV := [(.slice 0 0 (fun _ => []) .exact), (.slice 0 0 (fun _ => []) .exact), (.int .i64 (0 : Int)), (.int .i64 (0 : Int)), (.slice 0 0 (fun _ => []) .exact)]
noncomputable def Q339 (a_s2 : List (TBlock)) (i1 : Int) : List AV := [(AV.list 4 eTPhi (default : TPhi) (Q334 a_s2 i1).Phis .none), (AV.list 6 eTOp (default : TOp) (Q334 a_s2 i1).Ops .none), (.int .i64 (Q334 a_s2 i1).End.Kind), (.int .i64 (Q334 a_s2 i1).End.Arg), (AV.list 1 eI64 (0 : Int) (Q334 a_s2 i1).End.To .none)]
noncomputable def Q333 (a_s1 : List (TBlock)) (i1 : Int) : List AV := [(AV.list 4 eTPhi (default : TPhi) (a_s1.getD (i1).toNat (default : TBlock)).Phis .none), (AV.list 6 eTOp (default : TOp) (a_s1.getD (i1).toNat (default : TBlock)).Ops .none), (.int .i64 (a_s1.getD (i1).toNat (default : TBlock)).End.Kind), (.int .i64 (a_s1.getD (i1).toNat (default : TBlock)).End.Arg), (AV.list 1 eI64 (0 : Int) (a_s1.getD (i1).toNat (default : TBlock)).End.To .none)]
noncomputable def m_slices_EqualFunc_api_Block_api_Block_api_Block_api_Block (a_s1 : List (TBlock)) (a_s2 : List (TBlock)) : Option Bool :=
  (bif (((a_s1.length : Int) : Int) != (a_s2.length : Int)) then (some false) else ((loopO (S := Int) (X := (Unit ⊕ Bool)) (m_slices_EqualFunc_api_Block_api_Block_api_Block_api_Block_L1 a_s1 a_s2) (0 : Int)).bind (fun x5 => (match x5 with | (.inl _) => (some true) | (.inr r7) => (some r7)))))
theorem ok_slices_EqualFunc_api_Block_api_Block_api_Block_api_Block (a_s1 : List (TBlock)) (a_s2 : List (TBlock)) (r : Bool) (h : m_slices_EqualFunc_api_Block_api_Block_api_Block_api_Block a_s1 a_s2 = some r) : Spec Try.prog 37 [(AV.list 5 eTBlock (default : TBlock) a_s1 .none), (AV.list 5 eTBlock (default : TBlock) a_s2 .none), (.clo 38 [] [])] [] (.bool r) [] := by
  refine spec_of_awp (fn := Try.f37) Try.func37 rfl rfl (by kernel_rfl) (fun Γ hn hΓ => ?_)
  have hn : Γ.n = 32 := hn
  unfold m_slices_EqualFunc_api_Block_api_Block_api_Block_api_Block at h
  refine awp_seq ?_
  refine awp_region (rs := []) (cs := []) (live := [0, 1, 2]) (names := []) (st' := (⟨[(0, (Q335 a_s1)), (1, (Q336 a_s2)), (2, (.clo 38 [] []))], []⟩ : St)) (obs := []) hn mix (no_hand hΓ) (by kernel_rfl) trivial ?_
  refine then_normal ?_
  refine awp_seq ?_
  refine awp_seq ?_
  refine awp_region (rs := []) (cs := []) (live := [0, 1, 2, 14]) (names := []) (st' := (⟨[(0, (Q335 a_s1)), (1, (Q336 a_s2)), (2, (.clo 38 [] [])), (14, (.bool (((a_s1.length : Int) : Int) != (a_s2.length : Int))))], []⟩ : St)) (obs := []) hn mix (no_hand hΓ) (by kernel_rfl) trivial ?_
  refine then_normal ?_
  refine awp_cond (((a_s1.length : Int) : Int) != (a_s2.length : Int)) (by kernel_rfl) (fun hb => ?_) (fun hb => ?_)
  · replace h := cond_t hb h
    clear hb
    refine awp_seq ?_
    refine awp_region (rs := []) (cs := []) (live := [6]) (names := []) (st' := (⟨[(6, (.bool false))], []⟩ : St)) (obs := []) hn mix (no_hand hΓ) (by kernel_rfl) trivial ?_
    refine then_normal ?_
    refine awp_ret ?_
    refine then_ret ?_
    obtain rfl := Option.some.inj h
    exact ⟨.inl rfl, [], by kernel_rfl⟩
  · replace h := cond_f hb h
    clear hb
    refine awp_skip ?_
    refine then_normal ?_
    refine awp_seq ?_
    refine awp_seq ?_
    refine awp_region (rs := []) (cs := []) (live := [1, 2, 15, 16, 17]) (names := []) (st' := (⟨[(1, (Q336 a_s2)), (2, (.clo 38 [] [])), (15, (Q335 a_s1)), (16, (Q337 a_s1)), (17, (.int .i64 (0 : Int)))], []⟩ : St)) (obs := []) hn mix (no_hand hΓ) (by kernel_rfl) trivial ?_
    refine then_normal ?_
    refine awp_block ?_
    refine awp_le (st' := (fun (i1 : Int) => (⟨[(1, (Q336 a_s2)), (2, (.clo 38 [] [])), (15, (Q335 a_s1)), (16, (Q337 a_s1)), (17, (.int .i64 i1))], []⟩ : St)) (0 : Int)) (Le.refl _ _) ?_
    obtain ⟨x5, hx5, h⟩ := bind_some h
    refine awp_loop (fun (i1 : Int) => (⟨[(1, (Q336 a_s2)), (2, (.clo 38 [] [])), (15, (Q335 a_s1)), (16, (Q337 a_s1)), (17, (.int .i64 i1))], []⟩ : St)) _ (fun (x_ : (Unit ⊕ Bool)) (e : Exit) (st : St) => match x_ with | (.inl _) => e = (.exit 0) ∧ Le Γ st (⟨[], []⟩ : St) | (.inr r_) => e = .ret ∧ retK Try.prog Try.f37.results.toList [] (.bool r_) [] e st) ?_ hx5 ?_
    · intro i1 y h
      unfold m_slices_EqualFunc_api_Block_api_Block_api_Block_api_Block_L1 at h
      refine awp_seq ?_
      refine awp_region (rs := []) (cs := []) (live := [1, 2, 15, 16, 17, 18]) (names := []) (st' := (⟨[(1, (Q336 a_s2)), (2, (.clo 38 [] [])), (15, (Q335 a_s1)), (16, (Q337 a_s1)), (17, (.int .i64 i1)), (18, (.bool (decide ((i1 : Int) < (a_s1.length : Int)))))], []⟩ : St)) (obs := []) hn mix (no_hand hΓ) (by kernel_rfl) trivial ?_
      refine then_normal ?_
      refine awp_seq ?_
      refine awp_cond (decide ((i1 : Int) < (a_s1.length : Int))) (by kernel_rfl) (fun hb => ?_) (fun hb => ?_)
      · replace h := cond_t hb h
        clear hb
        refine awp_skip ?_
        refine then_normal ?_
        refine awp_seq ?_
        refine awp_block ?_
        refine awp_seq ?_
        obtain ⟨hc2, h⟩ := chk_some h
        refine awp_region (rs := []) (cs := []) (live := [1, 2, 7, 8, 15, 16, 17]) (names := [8]) (st' := (⟨[(1, (Q336 a_s2)), (2, (.clo 38 [] [])), (7, (.int .i64 i1)), (8, (.ptr 8 0)), (15, (Q335 a_s1)), (16, (Q337 a_s1)), (17, (.int .i64 i1))], [(8, .row (Q333 a_s1 i1))]⟩ : St)) (obs := [(InB i1 a_s1.length), (0 + List.length (α := AV) (eTBlock (a_s1.getD (i1).toNat (default : TBlock))) ≤ List.length (α := AV) Q338)]) hn mix (no_hand hΓ) (by kernel_rfl) ⟨hc2, (nl rfl), trivial⟩ ?_
        refine then_normal ?_
        refine awp_seq ?_
        obtain ⟨hc3, h⟩ := chk_some h
        refine awp_region (rs := []) (cs := []) (live := [1, 2, 8, 9, 15, 16, 17]) (names := [8, 9]) (st' := (⟨[(1, (Q336 a_s2)), (2, (.clo 38 [] [])), (8, (.ptr 8 0)), (9, (.ptr 9 0)), (15, (Q335 a_s1)), (16, (Q337 a_s1)), (17, (.int .i64 i1))], [(8, .row (Q333 a_s1 i1)), (9, .row (Q339 a_s2 i1))]⟩ : St)) (obs := [(InB i1 a_s2.length), (0 + List.length (α := AV) (eTBlock (Q334 a_s2 i1)) ≤ List.length (α := AV) Q338)]) hn mix (no_hand hΓ) (by kernel_rfl) ⟨hc3, (nl rfl), trivial⟩ ?_
        refine then_normal ?_
        refine awp_seq ?_
        obtain ⟨x4, hx4, h⟩ := bind_some h
        refine awp_region (rs := [⟨[], [], (.bool x4), []⟩]) (cs := []) (live := [1, 2, 15, 16, 17, 30]) (names := []) (st' := (⟨[(1, (Q336 a_s2)), (2, (.clo 38 [] [])), (15, (Q335 a_s1)), (16, (Q337 a_s1)), (17, (.int .i64 i1)), (30, (.bool (!x4)))], []⟩ : St)) (obs := [(0 + 5 ≤ List.length (α := AV) (Q333 a_s1 i1)), (0 + 5 ≤ List.length (α := AV) (Q339 a_s2 i1)), (Spec Try.prog 38 [(.agg (eTBlock (a_s1.getD (i1).toNat (default : TBlock)))), (.agg (eTBlock (Q334 a_s2 i1)))] [] (.bool x4) [])]) hn mix (no_hand hΓ) (by kernel_rfl) ⟨(nl rfl), (nl rfl), (ok_code_sameBlock (a_s1.getD (i1).toNat (default : TBlock)) (Q334 a_s2 i1) x4 hx4), trivial⟩ ?_
        refine then_normal ?_
        refine awp_cond (!x4) (by kernel_rfl) (fun hb => ?_) (fun hb => ?_)
        · replace h := cond_t hb h
          clear hb
          refine awp_seq ?_
          refine awp_region (rs := []) (cs := []) (live := [6]) (names := []) (st' := (⟨[(6, (.bool false))], []⟩ : St)) (obs := []) hn mix (no_hand hΓ) (by kernel_rfl) trivial ?_
          refine then_normal ?_
          refine awp_ret ?_
          refine block_ret ?_
          refine then_ret ?_
          obtain rfl := Option.some.inj h
          exact ⟨(by intro hh; cases hh), rfl, ⟨.inl rfl, [], by kernel_rfl⟩⟩
        · replace h := cond_f hb h
          clear hb
          refine awp_skip ?_
          refine block_normal ?_
          refine then_normal ?_
          refine awp_region (rs := []) (cs := []) (live := [1, 2, 15, 16, 17]) (names := []) (st' := (⟨[(1, (Q336 a_s2)), (2, (.clo 38 [] [])), (15, (Q335 a_s1)), (16, (Q337 a_s1)), (17, (.int .i64 (w64 (i1 + (1 : Int)))))], []⟩ : St)) (obs := []) hn mix (no_hand hΓ) (by kernel_rfl) trivial ?_
          obtain rfl := Option.some.inj h
          exact ⟨rfl, Le.refl _ _⟩
      · replace h := cond_f hb h
        clear hb
        refine awp_exit ?_
        refine then_exit ?_
        obtain rfl := Option.some.inj h
        exact ⟨(by intro hh; cases hh), rfl, le_restrict_eq [] [] (by kernel_rfl) (no_hand hΓ)⟩
    · clear hx5
      rcases x5 with _ | r7
      · rintro e st' ⟨rfl, hl6⟩
        refine block_here ?_
        refine then_normal ?_
        refine awp_le hl6 ?_
        refine awp_seq ?_
        refine awp_region (rs := []) (cs := []) (live := [6]) (names := []) (st' := (⟨[(6, (.bool true))], []⟩ : St)) (obs := []) hn mix (no_hand hΓ) (by kernel_rfl) trivial ?_
        refine then_normal ?_
        refine awp_ret ?_
        obtain rfl := Option.some.inj h
        exact ⟨.inl rfl, [], by kernel_rfl⟩
      · rintro e st' ⟨rfl, hk⟩
        refine block_ret ?_
        refine then_ret ?_
        obtain rfl := Option.some.inj h
        exact hk

noncomputable def Q343 (a_a : TFunc) (a_b : TFunc) := (((a_a.Ret : Int) == a_b.Ret) == true)
noncomputable def Q340 (a_a : TFunc) (a_b : TFunc) (x1 : Bool) := ((bif ((a_a.Ret : Int) == a_b.Ret) then x1 else false) == true)
noncomputable def Q341 (a_a : TFunc) : List AV := [(AV.list 1 eI64 (0 : Int) a_a.Params .none), (.int .i64 a_a.Ret), (AV.list 5 eTBlock (default : TBlock) a_a.Blocks .none)]
noncomputable def Q342 (a_b : TFunc) : List AV := [(AV.list 1 eI64 (0 : Int) a_b.Params .none), (.int .i64 a_b.Ret), (AV.list 5 eTBlock (default : TBlock) a_b.Blocks .none)]
noncomputable def m_code_Same (a_a : TFunc) (a_b : TFunc) : Option Bool :=
  ((bif (((a_a.Ret : Int) == a_b.Ret) == true) then m_slices_Equal_int_int a_a.Params a_b.Params else some false).bind fun x1 => ((bif ((bif ((a_a.Ret : Int) == a_b.Ret) then x1 else false) == true) then m_slices_EqualFunc_api_Block_api_Block_api_Block_api_Block a_a.Blocks a_b.Blocks else some false).bind fun x2 => (some (bif (bif ((a_a.Ret : Int) == a_b.Ret) then x1 else false) then x2 else false))))
theorem ok_code_Same (a_a : TFunc) (a_b : TFunc) (r : Bool) (h : m_code_Same a_a a_b = some r) : Spec Try.prog 19 [(.agg (eTFunc a_a)), (.agg (eTFunc a_b))] [] (.bool r) [] := by
  refine spec_of_awp (fn := Try.f19) Try.func19 rfl rfl (by kernel_rfl) (fun Γ hn hΓ => ?_)
  have hn : Γ.n = 24 := hn
  unfold m_code_Same at h
  refine awp_seq ?_
  refine awp_region (rs := []) (cs := []) (live := [2, 3]) (names := [2, 3]) (st' := (⟨[(2, (.ptr 2 0)), (3, (.ptr 3 0))], [(2, .row (Q341 a_a)), (3, .row (Q342 a_b))]⟩ : St)) (obs := []) hn mix (no_hand hΓ) (by kernel_rfl) trivial ?_
  refine then_normal ?_
  refine awp_seq ?_
  obtain ⟨x1, hx1, h⟩ := bind_some h
  obtain ⟨x2, hx2, h⟩ := bind_some h
  refine awp_region (rs := [⟨[], [], (.bool x1), []⟩, ⟨[], [], (.bool x2), []⟩]) (cs := []) (live := [4]) (names := []) (st' := (⟨[(4, (.bool (bif (bif ((a_a.Ret : Int) == a_b.Ret) then x1 else false) then x2 else false)))], []⟩ : St)) (obs := [(1 < List.length (α := AV) (Q341 a_a)), (1 < List.length (α := AV) (Q342 a_b)), ((Q343 a_a a_b) = true → (Q343 a_a a_b) = true), ((Q343 a_a a_b) = true → (0 < List.length (α := AV) (Q341 a_a))), ((Q343 a_a a_b) = true → (Q343 a_a a_b) = true), ((Q343 a_a a_b) = true → (0 < List.length (α := AV) (Q342 a_b))), ((Q343 a_a a_b) = true → (Q343 a_a a_b) = true), ((Q343 a_a a_b) = true → (Q343 a_a a_b) = true), ((Q343 a_a a_b) = true → (Spec Try.prog 36 [(AV.list 1 eI64 (0 : Int) a_a.Params .none), (AV.list 1 eI64 (0 : Int) a_b.Params .none)] [] (.bool x1) [])), (((a_a.Ret : Int) == a_b.Ret) = true → (Q343 a_a a_b) = true), ((Q340 a_a a_b x1) = true → (Q340 a_a a_b x1) = true), ((Q340 a_a a_b x1) = true → (2 < List.length (α := AV) (Q341 a_a))), ((Q340 a_a a_b x1) = true → (Q340 a_a a_b x1) = true), ((Q340 a_a a_b x1) = true → (2 < List.length (α := AV) (Q342 a_b))), ((Q340 a_a a_b x1) = true → (Q340 a_a a_b x1) = true), ((Q340 a_a a_b x1) = true → (Q340 a_a a_b x1) = true), ((Q340 a_a a_b x1) = true → (Spec Try.prog 37 [(AV.list 5 eTBlock (default : TBlock) a_a.Blocks .none), (AV.list 5 eTBlock (default : TBlock) a_b.Blocks .none), (.clo 38 [] [])] [] (.bool x2) [])), ((bif ((a_a.Ret : Int) == a_b.Ret) then x1 else false) = true → (Q340 a_a a_b x1) = true)]) hn mix (no_hand hΓ) (by kernel_rfl) ⟨(nl rfl), (nl rfl), (fun hg => hg), (fun hg => (nl rfl)), (fun hg => hg), (fun hg => (nl rfl)), (fun hg => hg), (fun hg => hg), (fun hg => (ok_slices_Equal_int_int a_a.Params a_b.Params x1 (cond_t hg hx1))), gT, (fun hg => hg), (fun hg => (nl rfl)), (fun hg => hg), (fun hg => (nl rfl)), (fun hg => hg), (fun hg => hg), (fun hg => (ok_slices_EqualFunc_api_Block_api_Block_api_Block_api_Block a_a.Blocks a_b.Blocks x2 (cond_t hg hx2))), gT, trivial⟩ ?_
  refine then_normal ?_
  refine awp_ret ?_
  obtain rfl := Option.some.inj h
  exact ⟨.inl rfl, [], by kernel_rfl⟩

noncomputable def Q349 (x4 : Bool) (x5 : Bool) := ((x4 != x5) == false)
noncomputable def Q348 (x11 : (TFunc × Int)) := (((x11.2 : Int) == (0 : Int)) == true)
noncomputable def Q345 (x4 : Bool) (x5 : Bool) (x6 : Int) (x7 : Int) := (bif (x4 != x5) then true else ((x6 : Int) != x7))
noncomputable def Q346 (x11 : (TFunc × Int)) (x12 : Bool) := (bif ((x11.2 : Int) == (0 : Int)) then x12 else false)
noncomputable def Q344 (a_f : TFunc) : List AV := [(AV.list 1 eI64 (0 : Int) a_f.Params .none), (.int .i64 a_f.Ret), (AV.list 5 eTBlock (default : TBlock) a_f.Blocks .none)]
noncomputable def Q347 (x11 : (TFunc × Int)) : List AV := [(AV.list 1 eI64 (0 : Int) x11.1.Params .none), (.int .i64 x11.1.Ret), (AV.list 5 eTBlock (default : TBlock) x11.1.Blocks .none)]
noncomputable def m_locksteplaw04_CodeTells (a_f : TFunc) : Option Bool :=
  ((m_locksteplaw04_awake).bind fun x1 => (bif (!x1) then (some false) else ((m_lockstepref04_Small a_f).bind fun x2 => (bif (!x2) then (some true) else ((m_code_Encode a_f).bind fun x3 => ((m_code_May a_f).bind fun x4 => ((m_lockstepref04_May a_f).bind fun x5 => ((bif ((x4 != x5) == false) then m_code_Size a_f else some (0 : Int)).bind fun x6 => ((bif ((x4 != x5) == false) then m_lockstepref04_Size a_f else some (0 : Int)).bind fun x7 => ((bif ((bif (x4 != x5) then true else ((x6 : Int) != x7)) == false) then m_lockstepref04_Encode a_f else some []).bind fun x8 => ((bif ((bif (x4 != x5) then true else ((x6 : Int) != x7)) == false) then m_lockstepref02_Same x3 x8 else some false).bind fun x9 => (bif (bif (bif (x4 != x5) then true else ((x6 : Int) != x7)) then true else (!x9)) then (some false) else ((m_lockstepref04_May a_f).bind fun x10 => (bif (!x10) then (some (((x3.length : Int) : Int) == (0 : Int))) else ((m_code_Decode x3).bind fun x11 => ((bif (((x11.2 : Int) == (0 : Int)) == true) then m_lockstepref04_Same x11.1 a_f else some false).bind fun x12 => ((bif ((bif ((x11.2 : Int) == (0 : Int)) then x12 else false) == true) then m_code_Same x11.1 a_f else some false).bind fun x13 => (some (bif (bif ((x11.2 : Int) == (0 : Int)) then x12 else false) then x13 else false)))))))))))))))))))
theorem ok_locksteplaw04_CodeTells (a_f : TFunc) (r : Bool) (h : m_locksteplaw04_CodeTells a_f = some r) : Spec Try.prog 3 [(.agg (eTFunc a_f))] [] (.bool r) [] := by
  refine spec_of_awp (fn := Try.f3) Try.func3 rfl rfl (by kernel_rfl) (fun Γ hn hΓ => ?_)
  have hn : Γ.n = 55 := hn
  unfold m_locksteplaw04_CodeTells at h
  refine awp_seq ?_
  refine awp_region (rs := []) (cs := []) (live := [1]) (names := [1]) (st' := (⟨[(1, (.ptr 1 0))], [(1, .row (Q344 a_f))]⟩ : St)) (obs := []) hn mix (no_hand hΓ) (by kernel_rfl) trivial ?_
  refine then_normal ?_
  refine awp_seq ?_
  refine awp_seq ?_
  obtain ⟨x1, hx1, h⟩ := bind_some h
  refine awp_region (rs := [⟨[], [], (.bool x1), []⟩]) (cs := []) (live := [1, 7]) (names := [1]) (st' := (⟨[(1, (.ptr 1 0)), (7, (.bool (!x1)))], [(1, .row (Q344 a_f))]⟩ : St)) (obs := [(Spec Try.prog 8 [] [] (.bool x1) [])]) hn mix (no_hand hΓ) (by kernel_rfl) ⟨(ok_locksteplaw04_awake  x1 hx1), trivial⟩ ?_
  refine then_normal ?_
  refine awp_cond (!x1) (by kernel_rfl) (fun hb => ?_) (fun hb => ?_)
  · replace h := cond_t hb h
    clear hb
    refine awp_seq ?_
    refine awp_region (rs := []) (cs := []) (live := [2]) (names := []) (st' := (⟨[(2, (.bool false))], []⟩ : St)) (obs := []) hn mix (no_hand hΓ) (by kernel_rfl) trivial ?_
    refine then_normal ?_
    refine awp_ret ?_
    refine then_ret ?_
    obtain rfl := Option.some.inj h
    exact ⟨.inl rfl, [], by kernel_rfl⟩
  · replace h := cond_f hb h
    clear hb
    refine awp_skip ?_
    refine then_normal ?_
    refine awp_seq ?_
    refine awp_seq ?_
    obtain ⟨x2, hx2, h⟩ := bind_some h
    refine awp_region (rs := [⟨[], [], (.bool x2), []⟩]) (cs := []) (live := [1, 10]) (names := [1]) (st' := (⟨[(1, (.ptr 1 0)), (10, (.bool (!x2)))], [(1, .row (Q344 a_f))]⟩ : St)) (obs := [(0 + 3 ≤ List.length (α := AV) (Q344 a_f)), (Spec Try.prog 9 [(.agg (eTFunc a_f))] [] (.bool x2) [])]) hn mix (no_hand hΓ) (by kernel_rfl) ⟨(nl rfl), (ok_lockstepref04_Small a_f x2 hx2), trivial⟩ ?_
    refine then_normal ?_
    refine awp_cond (!x2) (by kernel_rfl) (fun hb => ?_) (fun hb => ?_)
    · replace h := cond_t hb h
      clear hb
      refine awp_seq ?_
      refine awp_region (rs := []) (cs := []) (live := [2]) (names := []) (st' := (⟨[(2, (.bool true))], []⟩ : St)) (obs := []) hn mix (no_hand hΓ) (by kernel_rfl) trivial ?_
      refine then_normal ?_
      refine awp_ret ?_
      refine then_ret ?_
      obtain rfl := Option.some.inj h
      exact ⟨.inl rfl, [], by kernel_rfl⟩
    · replace h := cond_f hb h
      clear hb
      refine awp_skip ?_
      refine then_normal ?_
      refine awp_seq ?_
      obtain ⟨x3, hx3, h⟩ := bind_some h
      refine awp_region (rs := [⟨[], [(20000, 12)], (AV.list 1 eU8 (0 : Int) x3 (.own 20000)), [(20000, .tok 1 5 x3.length)]⟩]) (cs := []) (live := [1, 3]) (names := [1, 12]) (st' := (⟨[(1, (.ptr 1 0)), (3, (AV.list 1 eU8 (0 : Int) x3 (.own 12)))], [(1, .row (Q344 a_f)), (12, .tok 1 5 x3.length)]⟩ : St)) (obs := [(0 + 3 ≤ List.length (α := AV) (Q344 a_f)), (Spec Try.prog 10 [(.agg (eTFunc a_f))] [] (AV.list 1 eU8 (0 : Int) x3 (.own 20000)) [(20000, .tok 1 5 x3.length)])]) hn mix (no_hand hΓ) (by kernel_rfl) ⟨(nl rfl), (ok_code_Encode a_f x3 hx3), trivial⟩ ?_
      refine then_normal ?_
      refine awp_seq ?_
      refine awp_seq ?_
      obtain ⟨x4, hx4, h⟩ := bind_some h
      obtain ⟨x5, hx5, h⟩ := bind_some h
      obtain ⟨x6, hx6, h⟩ := bind_some h
      obtain ⟨x7, hx7, h⟩ := bind_some h
      obtain ⟨x8, hx8, h⟩ := bind_some h
      obtain ⟨x9, hx9, h⟩ := bind_some h
      refine awp_region (rs := [⟨[], [], (.bool x4), []⟩, ⟨[], [], (.bool x5), []⟩, ⟨[], [], (.int .i64 x6), []⟩, ⟨[], [], (.int .i64 x7), []⟩, ⟨[], [], (AV.list 1 eU8 (0 : Int) x8 .none), []⟩, ⟨[], [], (.bool x9), []⟩]) (cs := []) (live := [1, 3, 31]) (names := [1, 12]) (st' := (⟨[(1, (.ptr 1 0)), (3, (AV.list 1 eU8 (0 : Int) x3 (.own 12))), (31, (.bool (bif (Q345 x4 x5 x6 x7) then true else (!x9))))], [(1, .row (Q344 a_f)), (12, .tok 1 5 x3.length)]⟩ : St)) (obs := [(0 + 3 ≤ List.length (α := AV) (Q344 a_f)), (Spec Try.prog 11 [(.agg (eTFunc a_f))] [] (.bool x4) []), (0 + 3 ≤ List.length (α := AV) (Q344 a_f)), (Spec Try.prog 12 [(.agg (eTFunc a_f))] [] (.bool x5) []), ((Q349 x4 x5) = true → (0 + 3 ≤ List.length (α := AV) (Q344 a_f))), ((Q349 x4 x5) = true → (Q349 x4 x5) = true), ((Q349 x4 x5) = true → (Spec Try.prog 13 [(.agg (eTFunc a_f))] [] (.int .i64 x6) [])), ((Q349 x4 x5) = true → (0 + 3 ≤ List.length (α := AV) (Q344 a_f))), ((Q349 x4 x5) = true → (Q349 x4 x5) = true), ((Q349 x4 x5) = true → (Spec Try.prog 14 [(.agg (eTFunc a_f))] [] (.int .i64 x7) [])), ((Q349 x4 x5) = true → (Q349 x4 x5) = true), ((Q349 x4 x5) = true → (Q349 x4 x5) = true), ((x4 != x5) = false → (Q349 x4 x5) = true), (((Q345 x4 x5 x6 x7) == false) = true → (0 + 3 ≤ List.length (α := AV) (Q344 a_f))), (((Q345 x4 x5 x6 x7) == false) = true → ((Q345 x4 x5 x6 x7) == false) = true), (((Q345 x4 x5 x6 x7) == false) = true → (Spec Try.prog 16 [(.agg (eTFunc a_f))] [] (AV.list 1 eU8 (0 : Int) x8 .none) [])), (((Q345 x4 x5 x6 x7) == false) = true → ((Q345 x4 x5 x6 x7) == false) = true), (((Q345 x4 x5 x6 x7) == false) = true → ((Q345 x4 x5 x6 x7) == false) = true), (((Q345 x4 x5 x6 x7) == false) = true → (Spec Try.prog 15 [(AV.list 1 eU8 (0 : Int) x3 .none), (AV.list 1 eU8 (0 : Int) x8 .none)] [] (.bool x9) [])), (((Q345 x4 x5 x6 x7) == false) = true → ((Q345 x4 x5 x6 x7) == false) = true), ((Q345 x4 x5 x6 x7) = false → ((Q345 x4 x5 x6 x7) == false) = true)]) hn mix (no_hand hΓ) (by kernel_rfl) ⟨(nl rfl), (ok_code_May a_f x4 hx4), (nl rfl), (ok_lockstepref04_May a_f x5 hx5), (fun hg => (nl rfl)), (fun hg => hg), (fun hg => (ok_code_Size a_f x6 (cond_t hg hx6))), (fun hg => (nl rfl)), (fun hg => hg), (fun hg => (ok_lockstepref04_Size a_f x7 (cond_t hg hx7))), (fun hg => hg), (fun hg => hg), gF, (fun hg => (nl rfl)), (fun hg => hg), (fun hg => (Spec.drop (ok_lockstepref04_Encode a_f x8 (cond_t hg hx8)))), (fun hg => hg), (fun hg => hg), (fun hg => (ok_lockstepref02_Same x3 x8 x9 (cond_t hg hx9))), (fun hg => hg), gF, trivial⟩ ?_
      refine then_normal ?_
      refine awp_cond (bif (Q345 x4 x5 x6 x7) then true else (!x9)) (by kernel_rfl) (fun hb => ?_) (fun hb => ?_)
      · replace h := cond_t hb h
        clear hb
        refine awp_seq ?_
        refine awp_region (rs := []) (cs := []) (live := [2]) (names := []) (st' := (⟨[(2, (.bool false))], []⟩ : St)) (obs := []) hn mix (no_hand hΓ) (by kernel_rfl) trivial ?_
        refine then_normal ?_
        refine awp_ret ?_
        refine then_ret ?_
        obtain rfl := Option.some.inj h
        exact ⟨.inl rfl, [], by kernel_rfl⟩
      · replace h := cond_f hb h
        clear hb
        refine awp_skip ?_
        refine then_normal ?_
        refine awp_seq ?_
        refine awp_seq ?_
        obtain ⟨x10, hx10, h⟩ := bind_some h
        refine awp_region (rs := [⟨[], [], (.bool x10), []⟩]) (cs := []) (live := [1, 3, 34]) (names := [1, 12]) (st' := (⟨[(1, (.ptr 1 0)), (3, (AV.list 1 eU8 (0 : Int) x3 (.own 12))), (34, (.bool (!x10)))], [(1, .row (Q344 a_f)), (12, .tok 1 5 x3.length)]⟩ : St)) (obs := [(0 + 3 ≤ List.length (α := AV) (Q344 a_f)), (Spec Try.prog 12 [(.agg (eTFunc a_f))] [] (.bool x10) [])]) hn mix (no_hand hΓ) (by kernel_rfl) ⟨(nl rfl), (ok_lockstepref04_May a_f x10 hx10), trivial⟩ ?_
        refine then_normal ?_
        refine awp_cond (!x10) (by kernel_rfl) (fun hb => ?_) (fun hb => ?_)
        · replace h := cond_t hb h
          clear hb
          refine awp_seq ?_
          refine awp_region (rs := []) (cs := []) (live := [2]) (names := []) (st' := (⟨[(2, (.bool (((x3.length : Int) : Int) == (0 : Int))))], []⟩ : St)) (obs := []) hn mix (no_hand hΓ) (by kernel_rfl) trivial ?_
          refine then_normal ?_
          refine awp_ret ?_
          refine then_ret ?_
          obtain rfl := Option.some.inj h
          exact ⟨.inl rfl, [], by kernel_rfl⟩
        · replace h := cond_f hb h
          clear hb
          refine awp_skip ?_
          refine then_normal ?_
          refine awp_seq ?_
          obtain ⟨x11, hx11, h⟩ := bind_some h
          refine awp_region (rs := [⟨[], [], (.tuple [(.agg (eTFunc x11.1)), (.int .i64 x11.2)]), []⟩]) (cs := []) (live := [1, 4, 5]) (names := [1, 4]) (st' := (⟨[(1, (.ptr 1 0)), (4, (.ptr 4 0)), (5, (.int .i64 x11.2))], [(1, .row (Q344 a_f)), (4, .row (Q347 x11))]⟩ : St)) (obs := [(Spec Try.prog 17 [(AV.list 1 eU8 (0 : Int) x3 .none)] [] (.tuple [(.agg (eTFunc x11.1)), (.int .i64 x11.2)]) []), (0 + List.length (α := AV) (eTFunc x11.1) ≤ List.length (α := AV) [(.slice 0 0 (fun _ => []) .exact), (.int .i64 (0 : Int)), (.slice 0 0 (fun _ => []) .exact)])]) hn mix (no_hand hΓ) (by kernel_rfl) ⟨(ok_code_Decode x3 x11 hx11), (nl rfl), trivial⟩ ?_
          refine then_normal ?_
          refine awp_seq ?_
          obtain ⟨x12, hx12, h⟩ := bind_some h
          obtain ⟨x13, hx13, h⟩ := bind_some h
          refine awp_region (rs := [⟨[], [], (.bool x12), []⟩, ⟨[], [], (.bool x13), []⟩]) (cs := []) (live := [2]) (names := []) (st' := (⟨[(2, (.bool (bif (Q346 x11 x12) then x13 else false)))], []⟩ : St)) (obs := [((Q348 x11) = true → (0 + 3 ≤ List.length (α := AV) (Q347 x11))), ((Q348 x11) = true → (0 + 3 ≤ List.length (α := AV) (Q344 a_f))), ((Q348 x11) = true → (Q348 x11) = true), ((Q348 x11) = true → (Q348 x11) = true), ((Q348 x11) = true → (Spec Try.prog 18 [(.agg (eTFunc x11.1)), (.agg (eTFunc a_f))] [] (.bool x12) [])), (((x11.2 : Int) == (0 : Int)) = true → (Q348 x11) = true), (((Q346 x11 x12) == true) = true → (0 + 3 ≤ List.length (α := AV) (Q347 x11))), (((Q346 x11 x12) == true) = true → (0 + 3 ≤ List.length (α := AV) (Q344 a_f))), (((Q346 x11 x12) == true) = true → ((Q346 x11 x12) == true) = true), (((Q346 x11 x12) == true) = true → ((Q346 x11 x12) == true) = true), (((Q346 x11 x12) == true) = true → (Spec Try.prog 19 [(.agg (eTFunc x11.1)), (.agg (eTFunc a_f))] [] (.bool x13) [])), ((Q346 x11 x12) = true → ((Q346 x11 x12) == true) = true)]) hn mix (no_hand hΓ) (by kernel_rfl) ⟨(fun hg => (nl rfl)), (fun hg => (nl rfl)), (fun hg => hg), (fun hg => hg), (fun hg => (ok_lockstepref04_Same x11.1 a_f x12 (cond_t hg hx12))), gT, (fun hg => (nl rfl)), (fun hg => (nl rfl)), (fun hg => hg), (fun hg => hg), (fun hg => (ok_code_Same x11.1 a_f x13 (cond_t hg hx13))), gT, trivial⟩ ?_
          refine then_normal ?_
          refine awp_ret ?_
          obtain rfl := Option.some.inj h
          exact ⟨.inl rfl, [], by kernel_rfl⟩

noncomputable def Q352 (x7 : Bool) (x8 : Bool) := ((bif (!x7) then true else (!x8)) == false)
noncomputable def Q350 (a_f : TFunc) : List AV := [(AV.list 1 eI64 (0 : Int) a_f.Params .none), (.int .i64 a_f.Ret), (AV.list 5 eTBlock (default : TBlock) a_f.Blocks .none)]
noncomputable def Q351 (a_g : TFunc) : List AV := [(AV.list 1 eI64 (0 : Int) a_g.Params .none), (.int .i64 a_g.Ret), (AV.list 5 eTBlock (default : TBlock) a_g.Blocks .none)]
noncomputable def m_locksteplaw04_CodeSame (a_f : TFunc) (a_g : TFunc) : Option Bool :=
  ((m_locksteplaw04_awake).bind fun x1 => (bif (!x1) then (some false) else ((m_lockstepref04_Small a_f).bind fun x2 => ((bif ((!x2) == false) then m_lockstepref04_Small a_g else some false).bind fun x3 => (bif (bif (!x2) then true else (!x3)) then (some true) else ((m_code_Same a_f a_g).bind fun x4 => ((m_lockstepref04_Same a_f a_g).bind fun x5 => ((bif ((x4 != x5) == false) then m_code_Same a_f a_f else some false).bind fun x6 => (bif (bif (x4 != x5) then true else (!x6)) then (some false) else ((m_lockstepref04_May a_f).bind fun x7 => ((bif ((!x7) == false) then m_lockstepref04_May a_g else some false).bind fun x8 => ((bif ((bif (!x7) then true else (!x8)) == false) then m_code_Encode a_f else some []).bind fun x9 => ((bif ((bif (!x7) then true else (!x8)) == false) then m_code_Encode a_g else some []).bind fun x10 => ((bif ((bif (!x7) then true else (!x8)) == false) then m_lockstepref02_Same x9 x10 else some false).bind fun x11 => (some (bif (bif (!x7) then true else (!x8)) then true else (x4 == x11)))))))))))))))))
theorem ok_locksteplaw04_CodeSame (a_f : TFunc) (a_g : TFunc) (r : Bool) (h : m_locksteplaw04_CodeSame a_f a_g = some r) : Spec Try.prog 4 [(.agg (eTFunc a_f)), (.agg (eTFunc a_g))] [] (.bool r) [] := by
  refine spec_of_awp (fn := Try.f4) Try.func4 rfl rfl (by kernel_rfl) (fun Γ hn hΓ => ?_)
  have hn : Γ.n = 47 := hn
  unfold m_locksteplaw04_CodeSame at h
  refine awp_seq ?_
  refine awp_region (rs := []) (cs := []) (live := [2, 3]) (names := [2, 3]) (st' := (⟨[(2, (.ptr 2 0)), (3, (.ptr 3 0))], [(2, .row (Q350 a_f)), (3, .row (Q351 a_g))]⟩ : St)) (obs := []) hn mix (no_hand hΓ) (by kernel_rfl) trivial ?_
  refine then_normal ?_
  refine awp_seq ?_
  refine awp_seq ?_
  obtain ⟨x1, hx1, h⟩ := bind_some h
  refine awp_region (rs := [⟨[], [], (.bool x1), []⟩]) (cs := []) (live := [2, 3, 7]) (names := [2, 3]) (st' := (⟨[(2, (.ptr 2 0)), (3, (.ptr 3 0)), (7, (.bool (!x1)))], [(2, .row (Q350 a_f)), (3, .row (Q351 a_g))]⟩ : St)) (obs := [(Spec Try.prog 8 [] [] (.bool x1) [])]) hn mix (no_hand hΓ) (by kernel_rfl) ⟨(ok_locksteplaw04_awake  x1 hx1), trivial⟩ ?_
  refine then_normal ?_
  refine awp_cond (!x1) (by kernel_rfl) (fun hb => ?_) (fun hb => ?_)
  · replace h := cond_t hb h
    clear hb
    refine awp_seq ?_
    refine awp_region (rs := []) (cs := []) (live := [4]) (names := []) (st' := (⟨[(4, (.bool false))], []⟩ : St)) (obs := []) hn mix (no_hand hΓ) (by kernel_rfl) trivial ?_
    refine then_normal ?_
    refine awp_ret ?_
    refine then_ret ?_
    obtain rfl := Option.some.inj h
    exact ⟨.inl rfl, [], by kernel_rfl⟩
  · replace h := cond_f hb h
    clear hb
    refine awp_skip ?_
    refine then_normal ?_
    refine awp_seq ?_
    refine awp_seq ?_
    obtain ⟨x2, hx2, h⟩ := bind_some h
    obtain ⟨x3, hx3, h⟩ := bind_some h
    refine awp_region (rs := [⟨[], [], (.bool x2), []⟩, ⟨[], [], (.bool x3), []⟩]) (cs := []) (live := [2, 3, 15]) (names := [2, 3]) (st' := (⟨[(2, (.ptr 2 0)), (3, (.ptr 3 0)), (15, (.bool (bif (!x2) then true else (!x3))))], [(2, .row (Q350 a_f)), (3, .row (Q351 a_g))]⟩ : St)) (obs := [(0 + 3 ≤ List.length (α := AV) (Q350 a_f)), (Spec Try.prog 9 [(.agg (eTFunc a_f))] [] (.bool x2) []), (((!x2) == false) = true → (0 + 3 ≤ List.length (α := AV) (Q351 a_g))), (((!x2) == false) = true → ((!x2) == false) = true), (((!x2) == false) = true → (Spec Try.prog 9 [(.agg (eTFunc a_g))] [] (.bool x3) [])), (((!x2) == false) = true → ((!x2) == false) = true), ((!x2) = false → ((!x2) == false) = true)]) hn mix (no_hand hΓ) (by kernel_rfl) ⟨(nl rfl), (ok_lockstepref04_Small a_f x2 hx2), (fun hg => (nl rfl)), (fun hg => hg), (fun hg => (ok_lockstepref04_Small a_g x3 (cond_t hg hx3))), (fun hg => hg), gF, trivial⟩ ?_
    refine then_normal ?_
    refine awp_cond (bif (!x2) then true else (!x3)) (by kernel_rfl) (fun hb => ?_) (fun hb => ?_)
    · replace h := cond_t hb h
      clear hb
      refine awp_seq ?_
      refine awp_region (rs := []) (cs := []) (live := [4]) (names := []) (st' := (⟨[(4, (.bool true))], []⟩ : St)) (obs := []) hn mix (no_hand hΓ) (by kernel_rfl) trivial ?_
      refine then_normal ?_
      refine awp_ret ?_
      refine then_ret ?_
      obtain rfl := Option.some.inj h
      exact ⟨.inl rfl, [], by kernel_rfl⟩
    · replace h := cond_f hb h
      clear hb
      refine awp_skip ?_
      refine then_normal ?_
      refine awp_seq ?_
      obtain ⟨x4, hx4, h⟩ := bind_some h
      refine awp_region (rs := [⟨[], [], (.bool x4), []⟩]) (cs := []) (live := [2, 3, 5]) (names := [2, 3]) (st' := (⟨[(2, (.ptr 2 0)), (3, (.ptr 3 0)), (5, (.bool x4))], [(2, .row (Q350 a_f)), (3, .row (Q351 a_g))]⟩ : St)) (obs := [(0 + 3 ≤ List.length (α := AV) (Q350 a_f)), (0 + 3 ≤ List.length (α := AV) (Q351 a_g)), (Spec Try.prog 19 [(.agg (eTFunc a_f)), (.agg (eTFunc a_g))] [] (.bool x4) [])]) hn mix (no_hand hΓ) (by kernel_rfl) ⟨(nl rfl), (nl rfl), (ok_code_Same a_f a_g x4 hx4), trivial⟩ ?_
      refine then_normal ?_
      refine awp_seq ?_
      refine awp_seq ?_
      obtain ⟨x5, hx5, h⟩ := bind_some h
      obtain ⟨x6, hx6, h⟩ := bind_some h
      refine awp_region (rs := [⟨[], [], (.bool x5), []⟩, ⟨[], [], (.bool x6), []⟩]) (cs := []) (live := [2, 3, 5, 29]) (names := [2, 3]) (st' := (⟨[(2, (.ptr 2 0)), (3, (.ptr 3 0)), (5, (.bool x4)), (29, (.bool (bif (x4 != x5) then true else (!x6))))], [(2, .row (Q350 a_f)), (3, .row (Q351 a_g))]⟩ : St)) (obs := [(0 + 3 ≤ List.length (α := AV) (Q350 a_f)), (0 + 3 ≤ List.length (α := AV) (Q351 a_g)), (Spec Try.prog 18 [(.agg (eTFunc a_f)), (.agg (eTFunc a_g))] [] (.bool x5) []), (((x4 != x5) == false) = true → (0 + 3 ≤ List.length (α := AV) (Q350 a_f))), (((x4 != x5) == false) = true → (0 + 3 ≤ List.length (α := AV) (Q350 a_f))), (((x4 != x5) == false) = true → ((x4 != x5) == false) = true), (((x4 != x5) == false) = true → ((x4 != x5) == false) = true), (((x4 != x5) == false) = true → (Spec Try.prog 19 [(.agg (eTFunc a_f)), (.agg (eTFunc a_f))] [] (.bool x6) [])), (((x4 != x5) == false) = true → ((x4 != x5) == false) = true), ((x4 != x5) = false → ((x4 != x5) == false) = true)]) hn mix (no_hand hΓ) (by kernel_rfl) ⟨(nl rfl), (nl rfl), (ok_lockstepref04_Same a_f a_g x5 hx5), (fun hg => (nl rfl)), (fun hg => (nl rfl)), (fun hg => hg), (fun hg => hg), (fun hg => (ok_code_Same a_f a_f x6 (cond_t hg hx6))), (fun hg => hg), gF, trivial⟩ ?_
      refine then_normal ?_
      refine awp_cond (bif (x4 != x5) then true else (!x6)) (by kernel_rfl) (fun hb => ?_) (fun hb => ?_)
      · replace h := cond_t hb h
        clear hb
        refine awp_seq ?_
        refine awp_region (rs := []) (cs := []) (live := [4]) (names := []) (st' := (⟨[(4, (.bool false))], []⟩ : St)) (obs := []) hn mix (no_hand hΓ) (by kernel_rfl) trivial ?_
        refine then_normal ?_
        refine awp_ret ?_
        refine then_ret ?_
        obtain rfl := Option.some.inj h
        exact ⟨.inl rfl, [], by kernel_rfl⟩
      · replace h := cond_f hb h
        clear hb
        refine awp_skip ?_
        refine then_normal ?_
        refine awp_seq ?_
        obtain ⟨x7, hx7, h⟩ := bind_some h
        obtain ⟨x8, hx8, h⟩ := bind_some h
        obtain ⟨x9, hx9, h⟩ := bind_some h
        obtain ⟨x10, hx10, h⟩ := bind_some h
        obtain ⟨x11, hx11, h⟩ := bind_some h
        refine awp_region (rs := [⟨[], [], (.bool x7), []⟩, ⟨[], [], (.bool x8), []⟩, ⟨[], [], (AV.list 1 eU8 (0 : Int) x9 .none), []⟩, ⟨[], [], (AV.list 1 eU8 (0 : Int) x10 .none), []⟩, ⟨[], [], (.bool x11), []⟩]) (cs := []) (live := [4]) (names := []) (st' := (⟨[(4, (.bool (bif (bif (!x7) then true else (!x8)) then true else (x4 == x11))))], []⟩ : St)) (obs := [(0 + 3 ≤ List.length (α := AV) (Q350 a_f)), (Spec Try.prog 12 [(.agg (eTFunc a_f))] [] (.bool x7) []), (((!x7) == false) = true → (0 + 3 ≤ List.length (α := AV) (Q351 a_g))), (((!x7) == false) = true → ((!x7) == false) = true), (((!x7) == false) = true → (Spec Try.prog 12 [(.agg (eTFunc a_g))] [] (.bool x8) [])), (((!x7) == false) = true → ((!x7) == false) = true), ((!x7) = false → ((!x7) == false) = true), ((Q352 x7 x8) = true → (0 + 3 ≤ List.length (α := AV) (Q350 a_f))), ((Q352 x7 x8) = true → (Q352 x7 x8) = true), ((Q352 x7 x8) = true → (Spec Try.prog 10 [(.agg (eTFunc a_f))] [] (AV.list 1 eU8 (0 : Int) x9 .none) [])), ((Q352 x7 x8) = true → (0 + 3 ≤ List.length (α := AV) (Q351 a_g))), ((Q352 x7 x8) = true → (Q352 x7 x8) = true), ((Q352 x7 x8) = true → (Spec Try.prog 10 [(.agg (eTFunc a_g))] [] (AV.list 1 eU8 (0 : Int) x10 .none) [])), ((Q352 x7 x8) = true → (Q352 x7 x8) = true), ((Q352 x7 x8) = true → (Q352 x7 x8) = true), ((Q352 x7 x8) = true → (Spec Try.prog 15 [(AV.list 1 eU8 (0 : Int) x9 .none), (AV.list 1 eU8 (0 : Int) x10 .none)] [] (.bool x11) [])), ((Q352 x7 x8) = true → (Q352 x7 x8) = true), ((Q352 x7 x8) = true → (Q352 x7 x8) = true), ((bif (!x7) then true else (!x8)) = false → (Q352 x7 x8) = true)]) hn mix (no_hand hΓ) (by kernel_rfl) ⟨(nl rfl), (ok_lockstepref04_May a_f x7 hx7), (fun hg => (nl rfl)), (fun hg => hg), (fun hg => (ok_lockstepref04_May a_g x8 (cond_t hg hx8))), (fun hg => hg), gF, (fun hg => (nl rfl)), (fun hg => hg), (fun hg => (Spec.drop (ok_code_Encode a_f x9 (cond_t hg hx9)))), (fun hg => (nl rfl)), (fun hg => hg), (fun hg => (Spec.drop (ok_code_Encode a_g x10 (cond_t hg hx10)))), (fun hg => hg), (fun hg => hg), (fun hg => (ok_lockstepref02_Same x9 x10 x11 (cond_t hg hx11))), (fun hg => hg), (fun hg => hg), gF, trivial⟩ ?_
        refine then_normal ?_
        refine awp_ret ?_
        obtain rfl := Option.some.inj h
        exact ⟨.inl rfl, [], by kernel_rfl⟩

noncomputable def Q360 (a_p2 : Int) := ([a_p2] : List (Int))
noncomputable def Q358 (x3 : List (Int)) := (([] : List Int) ++ x3)
noncomputable def Q359 (a_p1 : Int) (x3 : List (Int)) := (Int.tmod (w64 a_p1) (x3.length : Int))
noncomputable def Q356 (x10 : (TFunc × Int)) := (((x10.1.Blocks.length : Int) : Int) == (0 : Int))
noncomputable def Q353 (x7 : (TFunc × Int)) (x10 : (TFunc × Int)) := (bif (bif ((x7.2 : Int) == (2 : Int)) then ((x10.2 : Int) == (3 : Int)) else false) then (((x7.1.Blocks.length : Int) : Int) == (0 : Int)) else false)
noncomputable def Q362 (x7 : (TFunc × Int)) (x10 : (TFunc × Int)) := ((bif (Q353 x7 x10) then (Q356 x10) else false) == true)
noncomputable def Q355 (x7 : (TFunc × Int)) (x10 : (TFunc × Int)) := ((bif ((x7.2 : Int) == (2 : Int)) then ((x10.2 : Int) == (3 : Int)) else false) == true)
noncomputable def Q354 (a_f : TFunc) : List AV := [(AV.list 1 eI64 (0 : Int) a_f.Params .none), (.int .i64 a_f.Ret), (AV.list 5 eTBlock (default : TBlock) a_f.Blocks .none)]
noncomputable def Q357 (x7 : (TFunc × Int)) : List AV := [(AV.list 1 eI64 (0 : Int) x7.1.Params .none), (.int .i64 x7.1.Ret), (AV.list 5 eTBlock (default : TBlock) x7.1.Blocks .none)]
noncomputable def Q361 (x10 : (TFunc × Int)) : List AV := [(AV.list 1 eI64 (0 : Int) x10.1.Params .none), (.int .i64 x10.1.Ret), (AV.list 5 eTBlock (default : TBlock) x10.1.Blocks .none)]
noncomputable def m_locksteplaw04_CodeCuts (a_f : TFunc) (a_p1 : Int) (a_p2 : Int) : Option Bool :=
  ((m_locksteplaw04_awake).bind fun x1 => (bif (!x1) then (some false) else ((m_lockstepref04_Small a_f).bind fun x2 => (bif (!x2) then (some true) else ((m_code_Encode a_f).bind fun x3 => (bif (((x3.length : Int) : Int) == (0 : Int)) then ((m_code_May a_f).bind fun x4 => (some (!x4))) else (chk ((x3.length : Int) ≠ 0) (chk (0 ≤ (Int.tmod (w64 a_p1) (x3.length : Int)) ∧ (Int.tmod (w64 a_p1) (x3.length : Int)) ≤ (x3.length : Int)) ((m_code_Decode (x3.take ((Int.tmod (w64 a_p1) (x3.length : Int))).toNat)).bind fun x7 => (chk (([] : List Int).length + x3.length ≤ room) (chk ((([] : List Int) ++ x3).length + ([a_p2] : List (Int)).length ≤ room) ((m_code_Decode ((([] : List Int) ++ x3) ++ ([a_p2] : List (Int)))).bind fun x10 => ((bif ((bif (bif (bif ((x7.2 : Int) == (2 : Int)) then ((x10.2 : Int) == (3 : Int)) else false) then (((x7.1.Blocks.length : Int) : Int) == (0 : Int)) else false) then (((x10.1.Blocks.length : Int) : Int) == (0 : Int)) else false) == true) then m_code_Encode a_f else some []).bind fun x11 => ((bif ((bif (bif (bif ((x7.2 : Int) == (2 : Int)) then ((x10.2 : Int) == (3 : Int)) else false) then (((x7.1.Blocks.length : Int) : Int) == (0 : Int)) else false) then (((x10.1.Blocks.length : Int) : Int) == (0 : Int)) else false) == true) then m_lockstepref02_Same x11 x3 else some false).bind fun x12 => (some (bif (bif (bif (bif ((x7.2 : Int) == (2 : Int)) then ((x10.2 : Int) == (3 : Int)) else false) then (((x7.1.Blocks.length : Int) : Int) == (0 : Int)) else false) then (((x10.1.Blocks.length : Int) : Int) == (0 : Int)) else false) then x12 else false))))))))))))))))
theorem ok_locksteplaw04_CodeCuts (a_f : TFunc) (a_p1 : Int) (a_p2 : Int) (r : Bool) (h : m_locksteplaw04_CodeCuts a_f a_p1 a_p2 = some r) : Spec Try.prog 5 [(.agg (eTFunc a_f)), (.int .u16 a_p1), (.int .u8 a_p2)] [] (.bool r) [] := by
  refine spec_of_awp (fn := Try.f5) Try.func5 rfl rfl (by kernel_rfl) (fun Γ hn hΓ => ?_)
  have hn : Γ.n = 70 := hn
  unfold m_locksteplaw04_CodeCuts at h
  refine awp_seq ?_
  refine awp_region (rs := []) (cs := []) (live := [1, 2, 3]) (names := [3]) (st' := (⟨[(1, (.int .u16 a_p1)), (2, (.int .u8 a_p2)), (3, (.ptr 3 0))], [(3, .row (Q354 a_f))]⟩ : St)) (obs := []) hn mix (no_hand hΓ) (by kernel_rfl) trivial ?_
  refine then_normal ?_
  refine awp_seq ?_
  refine awp_seq ?_
  obtain ⟨x1, hx1, h⟩ := bind_some h
  refine awp_region (rs := [⟨[], [], (.bool x1), []⟩]) (cs := []) (live := [1, 2, 3, 13]) (names := [3]) (st' := (⟨[(1, (.int .u16 a_p1)), (2, (.int .u8 a_p2)), (3, (.ptr 3 0)), (13, (.bool (!x1)))], [(3, .row (Q354 a_f))]⟩ : St)) (obs := [(Spec Try.prog 8 [] [] (.bool x1) [])]) hn mix (no_hand hΓ) (by kernel_rfl) ⟨(ok_locksteplaw04_awake  x1 hx1), trivial⟩ ?_
  refine then_normal ?_
  refine awp_cond (!x1) (by kernel_rfl) (fun hb => ?_) (fun hb => ?_)
  · replace h := cond_t hb h
    clear hb
    refine awp_seq ?_
    refine awp_region (rs := []) (cs := []) (live := [6]) (names := []) (st' := (⟨[(6, (.bool false))], []⟩ : St)) (obs := []) hn mix (no_hand hΓ) (by kernel_rfl) trivial ?_
    refine then_normal ?_
    refine awp_ret ?_
    refine then_ret ?_
    obtain rfl := Option.some.inj h
    exact ⟨.inl rfl, [], by kernel_rfl⟩
  · replace h := cond_f hb h
    clear hb
    refine awp_skip ?_
    refine then_normal ?_
    refine awp_seq ?_
    refine awp_seq ?_
    obtain ⟨x2, hx2, h⟩ := bind_some h
    refine awp_region (rs := [⟨[], [], (.bool x2), []⟩]) (cs := []) (live := [1, 2, 3, 16]) (names := [3]) (st' := (⟨[(1, (.int .u16 a_p1)), (2, (.int .u8 a_p2)), (3, (.ptr 3 0)), (16, (.bool (!x2)))], [(3, .row (Q354 a_f))]⟩ : St)) (obs := [(0 + 3 ≤ List.length (α := AV) (Q354 a_f)), (Spec Try.prog 9 [(.agg (eTFunc a_f))] [] (.bool x2) [])]) hn mix (no_hand hΓ) (by kernel_rfl) ⟨(nl rfl), (ok_lockstepref04_Small a_f x2 hx2), trivial⟩ ?_
    refine then_normal ?_
    refine awp_cond (!x2) (by kernel_rfl) (fun hb => ?_) (fun hb => ?_)
    · replace h := cond_t hb h
      clear hb
      refine awp_seq ?_
      refine awp_region (rs := []) (cs := []) (live := [6]) (names := []) (st' := (⟨[(6, (.bool true))], []⟩ : St)) (obs := []) hn mix (no_hand hΓ) (by kernel_rfl) trivial ?_
      refine then_normal ?_
      refine awp_ret ?_
      refine then_ret ?_
      obtain rfl := Option.some.inj h
      exact ⟨.inl rfl, [], by kernel_rfl⟩
    · replace h := cond_f hb h
      clear hb
      refine awp_skip ?_
      refine then_normal ?_
      refine awp_seq ?_
      obtain ⟨x3, hx3, h⟩ := bind_some h
      refine awp_region (rs := [⟨[], [(20000, 18)], (AV.list 1 eU8 (0 : Int) x3 (.own 20000)), [(20000, .tok 1 5 x3.length)]⟩]) (cs := []) (live := [1, 2, 3, 7]) (names := [3, 18]) (st' := (⟨[(1, (.int .u16 a_p1)), (2, (.int .u8 a_p2)), (3, (.ptr 3 0)), (7, (AV.list 1 eU8 (0 : Int) x3 (.own 18)))], [(3, .row (Q354 a_f)), (18, .tok 1 5 x3.length)]⟩ : St)) (obs := [(0 + 3 ≤ List.length (α := AV) (Q354 a_f)), (Spec Try.prog 10 [(.agg (eTFunc a_f))] [] (AV.list 1 eU8 (0 : Int) x3 (.own 20000)) [(20000, .tok 1 5 x3.length)])]) hn mix (no_hand hΓ) (by kernel_rfl) ⟨(nl rfl), (ok_code_Encode a_f x3 hx3), trivial⟩ ?_
      refine then_normal ?_
      refine awp_seq ?_
      refine awp_seq ?_
      refine awp_region (rs := []) (cs := []) (live := [1, 2, 3, 7, 21]) (names := [3, 18]) (st' := (⟨[(1, (.int .u16 a_p1)), (2, (.int .u8 a_p2)), (3, (.ptr 3 0)), (7, (AV.list 1 eU8 (0 : Int) x3 (.own 18))), (21, (.bool (((x3.length : Int) : Int) == (0 : Int))))], [(3, .row (Q354 a_f)), (18, .tok 1 5 x3.length)]⟩ : St)) (obs := []) hn mix (no_hand hΓ) (by kernel_rfl) trivial ?_
      refine then_normal ?_
      refine awp_cond (((x3.length : Int) : Int) == (0 : Int)) (by kernel_rfl) (fun hb => ?_) (fun hb => ?_)
      · replace h := cond_t hb h
        clear hb
        refine awp_seq ?_
        obtain ⟨x4, hx4, h⟩ := bind_some h
        refine awp_region (rs := [⟨[], [], (.bool x4), []⟩]) (cs := []) (live := [6]) (names := []) (st' := (⟨[(6, (.bool (!x4)))], []⟩ : St)) (obs := [(0 + 3 ≤ List.length (α := AV) (Q354 a_f)), (Spec Try.prog 11 [(.agg (eTFunc a_f))] [] (.bool x4) [])]) hn mix (no_hand hΓ) (by kernel_rfl) ⟨(nl rfl), (ok_code_May a_f x4 hx4), trivial⟩ ?_
        refine then_normal ?_
        refine awp_ret ?_
        refine then_ret ?_
        obtain rfl := Option.some.inj h
        exact ⟨.inl rfl, [], by kernel_rfl⟩
      · replace h := cond_f hb h
        clear hb
        refine awp_skip ?_
        refine then_normal ?_
        refine awp_seq ?_
        obtain ⟨hc5, h⟩ := chk_some h
        obtain ⟨hc6, h⟩ := chk_some h
        obtain ⟨x7, hx7, h⟩ := bind_some h
        refine awp_region (rs := [⟨[], [], (.tuple [(.agg (eTFunc x7.1)), (.int .i64 x7.2)]), []⟩]) (cs := [(32, (AV.list 1 eU8 (0 : Int) (x3.take ((Q359 a_p1 x3)).toNat) .none))]) (live := [2, 3, 7, 8, 9]) (names := [3, 8, 18]) (st' := (⟨[(2, (.int .u8 a_p2)), (3, (.ptr 3 0)), (7, (AV.list 1 eU8 (0 : Int) x3 (.own 18))), (8, (.ptr 8 0)), (9, (.int .i64 x7.2))], [(3, .row (Q354 a_f)), (8, .row (Q357 x7)), (18, .tok 1 5 x3.length)]⟩ : St)) (obs := [((x3.length : Int) ≠ 0), (0 ≤ (Q359 a_p1 x3) ∧ (Q359 a_p1 x3) ≤ (x3.length : Int)), (AVle (.slice 1 ((Q359 a_p1 x3)).toNat (fun i => eU8 (x3.getD i (0 : Int))) .none) (AV.list 1 eU8 (0 : Int) (x3.take ((Q359 a_p1 x3)).toNat) .none)), (Spec Try.prog 17 [(AV.list 1 eU8 (0 : Int) (x3.take ((Q359 a_p1 x3)).toNat) .none)] [] (.tuple [(.agg (eTFunc x7.1)), (.int .i64 x7.2)]) []), (0 + List.length (α := AV) (eTFunc x7.1) ≤ List.length (α := AV) [(.slice 0 0 (fun _ => []) .exact), (.int .i64 (0 : Int)), (.slice 0 0 (fun _ => []) .exact)])]) hn mix (no_hand hΓ) (by kernel_rfl) ⟨hc5, hc6, (av_take (toNat_le2 hc6)), (ok_code_Decode (x3.take ((Q359 a_p1 x3)).toNat) x7 hx7), (nl rfl), trivial⟩ ?_
        refine then_normal ?_
        refine awp_seq ?_
        obtain ⟨hc8, h⟩ := chk_some h
        obtain ⟨hc9, h⟩ := chk_some h
        obtain ⟨x10, hx10, h⟩ := bind_some h
        refine awp_region (rs := [⟨[], [], (.tuple [(.agg (eTFunc x10.1)), (.int .i64 x10.2)]), []⟩]) (cs := [(37, (AV.list 1 eU8 (0 : Int) ([] : List Int) .exact)), (39, (AV.list 1 eU8 (0 : Int) (Q358 x3) (.own 39))), (41, (AV.list 1 eU8 (0 : Int) (Q360 a_p2) .exact)), (42, (AV.list 1 eU8 (0 : Int) ((Q358 x3) ++ (Q360 a_p2)) (.own 39)))]) (live := [3, 7, 8, 9, 10, 11]) (names := [3, 8, 10, 18]) (st' := (⟨[(3, (.ptr 3 0)), (7, (AV.list 1 eU8 (0 : Int) x3 (.own 18))), (8, (.ptr 8 0)), (9, (.int .i64 x7.2)), (10, (.ptr 10 0)), (11, (.int .i64 x10.2))], [(3, .row (Q354 a_f)), (8, .row (Q357 x7)), (10, .row (Q361 x10)), (18, .tok 1 5 x3.length)]⟩ : St)) (obs := [(AVle (.slice 1 0 (fun i => ([] : List (List AV)).getD i []) .exact) (AV.list 1 eU8 (0 : Int) ([] : List Int) .exact)), (([] : List Int).length + x3.length ≤ room), (AVle (.slice 1 (([] : List Int).length + x3.length) (appF ([] : List Int).length (fun i => eU8 (([] : List Int).getD i (0 : Int))) (fun i => eU8 (x3.getD i (0 : Int)))) (.own 39)) (AV.list 1 eU8 (0 : Int) (Q358 x3) (.own 39))), (([] : List Int).length + x3.length = (Q358 x3).length), (AVle (.slice 1 1 (fun i => ([[(.int .u8 a_p2)]] : List (List AV)).getD i []) .exact) (AV.list 1 eU8 (0 : Int) (Q360 a_p2) .exact)), ((Q358 x3).length = (Q358 x3).length), ((Q358 x3).length + (Q360 a_p2).length ≤ room), (AVle (.slice 1 ((Q358 x3).length + (Q360 a_p2).length) (appF (Q358 x3).length (fun i => eU8 ((Q358 x3).getD i (0 : Int))) (fun i => eU8 ((Q360 a_p2).getD i (0 : Int)))) (.own 39)) (AV.list 1 eU8 (0 : Int) ((Q358 x3) ++ (Q360 a_p2)) (.own 39))), ((Q358 x3).length + (Q360 a_p2).length = ((Q358 x3) ++ (Q360 a_p2)).length), (Spec Try.prog 17 [(AV.list 1 eU8 (0 : Int) ((Q358 x3) ++ (Q360 a_p2)) .none)] [] (.tuple [(.agg (eTFunc x10.1)), (.int .i64 x10.2)]) []), (0 + List.length (α := AV) (eTFunc x10.1) ≤ List.length (α := AV) [(.slice 0 0 (fun _ => []) .exact), (.int .i64 (0 : Int)), (.slice 0 0 (fun _ => []) .exact)])]) hn mix (no_hand hΓ) (by kernel_rfl) ⟨av_lit rfl (fun i hi => absurd hi (Nat.not_lt_zero i)), hc8, av_app, (len_app _ _), (av_lit rfl (fun i hi => map_get (e := eU8) (d := (0 : Int)) (Q360 a_p2) i hi)), rfl, hc9, av_app, (len_app _ _), (ok_code_Decode ((Q358 x3) ++ (Q360 a_p2)) x10 hx10), (nl rfl), trivial⟩ ?_
        refine then_normal ?_
        refine awp_seq ?_
        obtain ⟨x11, hx11, h⟩ := bind_some h
        obtain ⟨x12, hx12, h⟩ := bind_some h
        refine awp_region (rs := [⟨[], [], (AV.list 1 eU8 (0 : Int) x11 .none), []⟩, ⟨[], [], (.bool x12), []⟩]) (cs := []) (live := [6]) (names := []) (st' := (⟨[(6, (.bool (bif (bif (Q353 x7 x10) then (Q356 x10) else false) then x12 else false)))], []⟩ : St)) (obs := [((((x7.2 : Int) == (2 : Int)) == true) = true → (((x7.2 : Int) == (2 : Int)) == true) = true), (((x7.2 : Int) == (2 : Int)) = true → (((x7.2 : Int) == (2 : Int)) == true) = true), ((Q355 x7 x10) = true → (Q355 x7 x10) = true), ((Q355 x7 x10) = true → (2 < List.length (α := AV) (Q357 x7))), ((Q355 x7 x10) = true → (Q355 x7 x10) = true), ((Q355 x7 x10) = true → (Q355 x7 x10) = true), ((bif ((x7.2 : Int) == (2 : Int)) then ((x10.2 : Int) == (3 : Int)) else false) = true → (Q355 x7 x10) = true), (((Q353 x7 x10) == true) = true → ((Q353 x7 x10) == true) = true), (((Q353 x7 x10) == true) = true → (2 < List.length (α := AV) (Q361 x10))), (((Q353 x7 x10) == true) = true → ((Q353 x7 x10) == true) = true), (((Q353 x7 x10) == true) = true → ((Q353 x7 x10) == true) = true), ((Q353 x7 x10) = true → ((Q353 x7 x10) == true) = true), ((Q362 x7 x10) = true → (0 + 3 ≤ List.length (α := AV) (Q354 a_f))), ((Q362 x7 x10) = true → (Q362 x7 x10) = true), ((Q362 x7 x10) = true → (Spec Try.prog 10 [(.agg (eTFunc a_f))] [] (AV.list 1 eU8 (0 : Int) x11 .none) [])), ((Q362 x7 x10) = true → (Q362 x7 x10) = true), ((Q362 x7 x10) = true → (Q362 x7 x10) = true), ((Q362 x7 x10) = true → (Spec Try.prog 15 [(AV.list 1 eU8 (0 : Int) x11 .none), (AV.list 1 eU8 (0 : Int) x3 .none)] [] (.bool x12) [])), ((bif (Q353 x7 x10) then (Q356 x10) else false) = true → (Q362 x7 x10) = true)]) hn mix (no_hand hΓ) (by kernel_rfl) ⟨(fun hg => hg), gT, (fun hg => hg), (fun hg => (nl rfl)), (fun hg => hg), (fun hg => hg), gT, (fun hg => hg), (fun hg => (nl rfl)), (fun hg => hg), (fun hg => hg), gT, (fun hg => (nl rfl)), (fun hg => hg), (fun hg => (Spec.drop (ok_code_Encode a_f x11 (cond_t hg hx11)))), (fun hg => hg), (fun hg => hg), (fun hg => (ok_lockstepref02_Same x11 x3 x12 (cond_t hg hx12))), gT, trivial⟩ ?_
        refine then_normal ?_
        refine awp_ret ?_
        obtain rfl := Option.some.inj h
        exact ⟨.inl rfl, [], by kernel_rfl⟩

noncomputable def m_locksteplaw04_CodeSizes_L1 (a_p1 : Int) : (Int × List (TOp)) → Option (LR (Int × List (TOp)) (List (TOp))) :=
  fun ((i5, l6) : (Int × List (TOp))) => (bif (decide ((i5 : Int) < (Int.tmod (w64 a_p1) (12 : Int)))) then (chk (l6.length + ([(⟨(0 : Int), (8 : Int), (1 : Int), (1 : Int), ([] : List Int), (0 : Int)⟩ : TOp)] : List (TOp)).length ≤ room) (some (.next ((w64 (i5 + (1 : Int))), (l6 ++ ([(⟨(0 : Int), (8 : Int), (1 : Int), (1 : Int), ([] : List Int), (0 : Int)⟩ : TOp)] : List (TOp))))))) else (some (.done l6)))
noncomputable def m_locksteplaw04_CodeSizes_L2 (a_n : Int) (a_p1 : Int) : (Int × List (TBlock)) → Option (LR (Int × List (TBlock)) (List (TBlock))) :=
  fun ((i2, l3) : (Int × List (TBlock))) => (bif (decide ((i2 : Int) < (w64 ((1 : Int) + (Int.tmod (w64 a_n) (70 : Int)))))) then ((loopO (S := (Int × List (TOp))) (X := List (TOp)) (m_locksteplaw04_CodeSizes_L1 a_p1) ((0 : Int), ([] : List TOp))).bind (fun x9 => ((chk (l3.length + ([(⟨([] : List TPhi), x9, (⟨(0 : Int), (0 : Int), ([] : List Int)⟩ : TEnd)⟩ : TBlock)] : List (TBlock)).length ≤ room) (some (.next ((w64 (i2 + (1 : Int))), (l3 ++ ([(⟨([] : List TPhi), x9, (⟨(0 : Int), (0 : Int), ([] : List Int)⟩ : TEnd)⟩ : TBlock)] : List (TBlock)))))))))) else (some (.done l3)))
noncomputable def Q369 : AV := (.int .i64 (0 : Int))
noncomputable def Q365 : AV := (.slice 0 0 (fun _ => []) .exact)
noncomputable def Q372 (x12 : List (TBlock)) : AV := (AV.list 5 eTBlock (default : TBlock) x12 (.own 5702))
noncomputable def Q389 (x12 : List (TBlock)) : List AV := [Q365, Q369, (Q372 x12)]
noncomputable def Q378 (a_n : Int) := (w64 ((1 : Int) + (Int.tmod (w64 a_n) (70 : Int))))
noncomputable def Q385 (a_p1 : Int) := (w64 ((Int.tmod (w64 a_p1) (12 : Int)) + (1 : Int)))
noncomputable def Q363 (a_n : Int) (a_p1 : Int) := (bif (decide (((Q378 a_n) : Int) ≤ (64 : Int))) then (decide (((w64 ((Q378 a_n) * (Q385 a_p1))) : Int) ≤ (512 : Int))) else false)
noncomputable def Q386 (a_n : Int) (a_p1 : Int) := ((!(Q363 a_n a_p1)) == false)
noncomputable def Q374 : AV := (AV.list 1 eI64 (0 : Int) ([] : List Int) .exact)
noncomputable def Q392 (x12 : List (TBlock)) : AV := (.agg [Q374, Q369, (Q372 x12)])
noncomputable def Q371 (a_p1 : Int) : AV := (.int .i64 (Int.tmod (w64 a_p1) (12 : Int)))
noncomputable def Q370 (x14 : List (Int)) := (decide (((0 : Int) : Int) < (x14.length : Int)))
noncomputable def Q373 (l3 : List (TBlock)) : AV := (AV.list 5 eTBlock (default : TBlock) l3 (.own 5702))
noncomputable def Q367 := ([(⟨(0 : Int), (8 : Int), (1 : Int), (1 : Int), ([] : List Int), (0 : Int)⟩ : TOp)] : List (TOp))
noncomputable def Q384 (l6 : List (TOp)) : AV := (AV.list 6 eTOp (default : TOp) (l6 ++ Q367) (.own 5901))
noncomputable def Q364 (x16 : Int) (a_n : Int) (a_p1 : Int) := ((x16 : Int) == (w64 ((Q378 a_n) * (Q385 a_p1))))
noncomputable def Q375 (x16 : Int) (a_n : Int) (a_p1 : Int) (x17 : Bool) (x14 : List (Int)) (x15 : (TFunc × Int)) := (bif (bif (bif (Q364 x16 a_n a_p1) then (x17 == (Q363 a_n a_p1)) else false) then ((Q370 x14) == (Q363 a_n a_p1)) else false) then (((x15.2 : Int) == (0 : Int)) == (Q363 a_n a_p1)) else false)
noncomputable def Q387 (x16 : Int) (a_n : Int) (a_p1 : Int) (x17 : Bool) (x14 : List (Int)) (x15 : (TFunc × Int)) := (((Q375 x16 a_n a_p1 x17 x14 x15) == true) && (Q386 a_n a_p1))
noncomputable def Q368 (a_n : Int) : AV := (.int .i64 (Q378 a_n))
noncomputable def Q366 (x9 : List (TOp)) := ([(⟨([] : List TPhi), x9, (⟨(0 : Int), (0 : Int), ([] : List Int)⟩ : TEnd)⟩ : TBlock)] : List (TBlock))
noncomputable def Q380 (l3 : List (TBlock)) (x9 : List (TOp)) : AV := (AV.list 5 eTBlock (default : TBlock) (l3 ++ (Q366 x9)) (.own 5702))
noncomputable def Q377 (x16 : Int) (a_n : Int) (a_p1 : Int) (x17 : Bool) := ((bif (Q364 x16 a_n a_p1) then (x17 == (Q363 a_n a_p1)) else false) == true)
noncomputable def Q383 (a_n : Int) (a_p1 : Int) (i2 : Int) (i5 : Int) : List (Nat × AV) := [(5, (Q368 a_n)), (6, (Q371 a_p1)), (7, (.ptr 7 0)), (8, (.int .i64 i2)), (9, (.ptr 9 0)), (10, (.int .i64 i5))]
noncomputable def Q381 (x12 : List (TBlock)) : List AV := [(.agg [(AV.list 1 eI64 (0 : Int) ([] : List Int) .none), Q369, (AV.list 5 eTBlock (default : TBlock) x12 .none)])]
noncomputable def Q391 (x15 : (TFunc × Int)) : List AV := [(AV.list 1 eI64 (0 : Int) x15.1.Params .none), (.int .i64 x15.1.Ret), (AV.list 5 eTBlock (default : TBlock) x15.1.Blocks .none)]
noncomputable def Q376 (x16 : Int) (a_n : Int) (a_p1 : Int) (x17 : Bool) (x14 : List (Int)) := ((bif (bif (Q364 x16 a_n a_p1) then (x17 == (Q363 a_n a_p1)) else false) then ((Q370 x14) == (Q363 a_n a_p1)) else false) == true)
noncomputable def Q390 (x9 : List (TOp)) : AV := (.agg [(AV.list 4 eTPhi (default : TPhi) ([] : List TPhi) .exact), (AV.list 6 eTOp (default : TOp) x9 (.own 5901)), Q369, Q369, Q374])
noncomputable def Q388 (l3 : List (TBlock)) (l6 : List (TOp)) : List (Nat × Own) := [(7, .row [Q365, Q369, (Q373 l3)]), (9, .row [Q365, (Q384 l6), Q369, Q369, Q365]), (5702, .tok 5 43 l3.length), (5901, .tok 6 46 ((l6 ++ Q367).length))]
noncomputable def Q379 (l3 : List (TBlock)) (l6 : List (TOp)) : List (Nat × Own) := [(7, .row [Q365, Q369, (Q373 l3)]), (9, .row [Q365, (AV.list 6 eTOp (default : TOp) l6 (.own 5901)), Q369, Q369, Q365]), (5702, .tok 5 43 l3.length), (5901, .tok 6 46 l6.length)]
noncomputable def Q382 (a_n : Int) (a_p1 : Int) (i2 : Int) (l3 : List (TBlock)) := (⟨[(5, (Q368 a_n)), (6, (Q371 a_p1)), (7, (.ptr 7 0)), (8, (.int .i64 i2)), (9, (.ptr 9 0)), (10, Q369)], [(7, .row [Q365, Q369, (Q373 l3)]), (9, .row [Q365, Q365, Q369, Q369, Q365]), (5702, .tok 5 43 l3.length)]⟩ : St)
noncomputable def m_locksteplaw04_CodeSizes (a_n : Int) (a_p1 : Int) : Option Bool :=
  ((m_locksteplaw04_awake).bind fun x1 => (bif (!x1) then (some false) else ((loopO (S := (Int × List (TBlock))) (X := List (TBlock)) (m_locksteplaw04_CodeSizes_L2 a_n a_p1) ((0 : Int), ([] : List TBlock))).bind (fun x12 => (((m_code_Encode (⟨([] : List Int), (0 : Int), x12⟩ : TFunc)).bind fun x14 => ((m_code_Decode x14).bind fun x15 => ((m_code_Size (⟨([] : List Int), (0 : Int), x12⟩ : TFunc)).bind fun x16 => ((bif (((x16 : Int) == (w64 ((w64 ((1 : Int) + (Int.tmod (w64 a_n) (70 : Int)))) * (w64 ((Int.tmod (w64 a_p1) (12 : Int)) + (1 : Int)))))) == true) then m_code_May (⟨([] : List Int), (0 : Int), x12⟩ : TFunc) else some false).bind fun x17 => ((bif (((bif (bif (bif ((x16 : Int) == (w64 ((w64 ((1 : Int) + (Int.tmod (w64 a_n) (70 : Int)))) * (w64 ((Int.tmod (w64 a_p1) (12 : Int)) + (1 : Int)))))) then (x17 == (bif (decide (((w64 ((1 : Int) + (Int.tmod (w64 a_n) (70 : Int)))) : Int) ≤ (64 : Int))) then (decide (((w64 ((w64 ((1 : Int) + (Int.tmod (w64 a_n) (70 : Int)))) * (w64 ((Int.tmod (w64 a_p1) (12 : Int)) + (1 : Int))))) : Int) ≤ (512 : Int))) else false)) else false) then ((decide (((0 : Int) : Int) < (x14.length : Int))) == (bif (decide (((w64 ((1 : Int) + (Int.tmod (w64 a_n) (70 : Int)))) : Int) ≤ (64 : Int))) then (decide (((w64 ((w64 ((1 : Int) + (Int.tmod (w64 a_n) (70 : Int)))) * (w64 ((Int.tmod (w64 a_p1) (12 : Int)) + (1 : Int))))) : Int) ≤ (512 : Int))) else false)) else false) then (((x15.2 : Int) == (0 : Int)) == (bif (decide (((w64 ((1 : Int) + (Int.tmod (w64 a_n) (70 : Int)))) : Int) ≤ (64 : Int))) then (decide (((w64 ((w64 ((1 : Int) + (Int.tmod (w64 a_n) (70 : Int)))) * (w64 ((Int.tmod (w64 a_p1) (12 : Int)) + (1 : Int))))) : Int) ≤ (512 : Int))) else false)) else false) == true) && ((!(bif (decide (((w64 ((1 : Int) + (Int.tmod (w64 a_n) (70 : Int)))) : Int) ≤ (64 : Int))) then (decide (((w64 ((w64 ((1 : Int) + (Int.tmod (w64 a_n) (70 : Int)))) * (w64 ((Int.tmod (w64 a_p1) (12 : Int)) + (1 : Int))))) : Int) ≤ (512 : Int))) else false)) == false)) then m_code_Size x15.1 else some (0 : Int)).bind fun x18 => (some (bif (bif (bif (bif ((x16 : Int) == (w64 ((w64 ((1 : Int) + (Int.tmod (w64 a_n) (70 : Int)))) * (w64 ((Int.tmod (w64 a_p1) (12 : Int)) + (1 : Int)))))) then (x17 == (bif (decide (((w64 ((1 : Int) + (Int.tmod (w64 a_n) (70 : Int)))) : Int) ≤ (64 : Int))) then (decide (((w64 ((w64 ((1 : Int) + (Int.tmod (w64 a_n) (70 : Int)))) * (w64 ((Int.tmod (w64 a_p1) (12 : Int)) + (1 : Int))))) : Int) ≤ (512 : Int))) else false)) else false) then ((decide (((0 : Int) : Int) < (x14.length : Int))) == (bif (decide (((w64 ((1 : Int) + (Int.tmod (w64 a_n) (70 : Int)))) : Int) ≤ (64 : Int))) then (decide (((w64 ((w64 ((1 : Int) + (Int.tmod (w64 a_n) (70 : Int)))) * (w64 ((Int.tmod (w64 a_p1) (12 : Int)) + (1 : Int))))) : Int) ≤ (512 : Int))) else false)) else false) then (((x15.2 : Int) == (0 : Int)) == (bif (decide (((w64 ((1 : Int) + (Int.tmod (w64 a_n) (70 : Int)))) : Int) ≤ (64 : Int))) then (decide (((w64 ((w64 ((1 : Int) + (Int.tmod (w64 a_n) (70 : Int)))) * (w64 ((Int.tmod (w64 a_p1) (12 : Int)) + (1 : Int))))) : Int) ≤ (512 : Int))) else false)) else false) then (bif (!(bif (decide (((w64 ((1 : Int) + (Int.tmod (w64 a_n) (70 : Int)))) : Int) ≤ (64 : Int))) then (decide (((w64 ((w64 ((1 : Int) + (Int.tmod (w64 a_n) (70 : Int)))) * (w64 ((Int.tmod (w64 a_p1) (12 : Int)) + (1 : Int))))) : Int) ≤ (512 : Int))) else false)) then true else ((x18 : Int) == (w64 ((w64 ((1 : Int) + (Int.tmod (w64 a_n) (70 : Int)))) * (w64 ((Int.tmod (w64 a_p1) (12 : Int)) + (1 : Int))))))) else false))))))))))))
theorem ok_locksteplaw04_CodeSizes (a_n : Int) (a_p1 : Int) (r : Bool) (h : m_locksteplaw04_CodeSizes a_n a_p1 = some r) : Spec Try.prog 6 [(.int .u8 a_n), (.int .u16 a_p1)] [] (.bool r) [] := by
  refine spec_of_awp (fn := Try.f6) Try.func6 rfl rfl (by kernel_rfl) (fun Γ hn hΓ => ?_)
  have hn : Γ.n = 97 := hn
  unfold m_locksteplaw04_CodeSizes at h
  refine awp_seq ?_
  refine awp_region (rs := []) (cs := []) (live := [0, 1]) (names := []) (st' := (⟨[(0, (.int .u8 a_n)), (1, (.int .u16 a_p1))], []⟩ : St)) (obs := []) hn mix (no_hand hΓ) (by kernel_rfl) trivial ?_
  refine then_normal ?_
  refine awp_seq ?_
  refine awp_seq ?_
  obtain ⟨x1, hx1, h⟩ := bind_some h
  refine awp_region (rs := [⟨[], [], (.bool x1), []⟩]) (cs := []) (live := [0, 1, 17]) (names := []) (st' := (⟨[(0, (.int .u8 a_n)), (1, (.int .u16 a_p1)), (17, (.bool (!x1)))], []⟩ : St)) (obs := [(Spec Try.prog 8 [] [] (.bool x1) [])]) hn mix (no_hand hΓ) (by kernel_rfl) ⟨(ok_locksteplaw04_awake  x1 hx1), trivial⟩ ?_
  refine then_normal ?_
  refine awp_cond (!x1) (by kernel_rfl) (fun hb => ?_) (fun hb => ?_)
  · replace h := cond_t hb h
    clear hb
    refine awp_seq ?_
    refine awp_region (rs := []) (cs := []) (live := [4]) (names := []) (st' := (⟨[(4, (.bool false))], []⟩ : St)) (obs := []) hn mix (no_hand hΓ) (by kernel_rfl) trivial ?_
    refine then_normal ?_
    refine awp_ret ?_
    refine then_ret ?_
    obtain rfl := Option.some.inj h
    exact ⟨.inl rfl, [], by kernel_rfl⟩
  · replace h := cond_f hb h
    clear hb
    refine awp_skip ?_
    refine then_normal ?_
    refine awp_seq ?_
    refine awp_region (rs := []) (cs := []) (live := [1, 5]) (names := []) (st' := (⟨[(1, (.int .u16 a_p1)), (5, (Q368 a_n))], []⟩ : St)) (obs := [((70 : Int) ≠ 0)]) hn mix (no_hand hΓ) (by kernel_rfl) ⟨(by decide), trivial⟩ ?_
    refine then_normal ?_
    refine awp_seq ?_
    refine awp_region (rs := []) (cs := []) (live := [5, 6]) (names := []) (st' := (⟨[(5, (Q368 a_n)), (6, (Q371 a_p1))], []⟩ : St)) (obs := [((12 : Int) ≠ 0)]) hn mix (no_hand hΓ) (by kernel_rfl) ⟨(by decide), trivial⟩ ?_
    refine then_normal ?_
    refine awp_seq ?_
    refine awp_region (rs := []) (cs := []) (live := [5, 6, 7]) (names := [7]) (st' := (⟨[(5, (Q368 a_n)), (6, (Q371 a_p1)), (7, (.ptr 7 0))], [(7, .row [Q365, Q369, Q365])]⟩ : St)) (obs := []) hn mix (no_hand hΓ) (by kernel_rfl) trivial ?_
    refine then_normal ?_
    refine awp_seq ?_
    refine awp_seq ?_
    refine awp_region (rs := []) (cs := []) (live := [5, 6, 7, 8]) (names := [7]) (st' := (⟨[(5, (Q368 a_n)), (6, (Q371 a_p1)), (7, (.ptr 7 0)), (8, Q369)], [(7, .row [Q365, Q369, Q365])]⟩ : St)) (obs := []) hn mix (no_hand hΓ) (by kernel_rfl) trivial ?_
    refine then_normal ?_
    refine awp_block ?_
    refine awp_le (st' := (fun ((i2, l3) : (Int × List (TBlock))) => (⟨[(5, (Q368 a_n)), (6, (Q371 a_p1)), (7, (.ptr 7 0)), (8, (.int .i64 i2))], [(7, .row [Q365, Q369, (Q373 l3)]), (5702, .tok 5 43 l3.length)]⟩ : St)) ((0 : Int), ([] : List TBlock))) (Le.trans (le_restrict_eq (st' := (⟨[(5, (Q368 a_n)), (6, (Q371 a_p1)), (7, (.ptr 7 0)), (8, Q369)], [(7, .row [Q365, Q369, Q365])]⟩ : St)) [5, 6, 7, 8] [7] (by kernel_rfl) (no_hand hΓ)) (Le.trans (le_tag_cell (r := 7) (j := 2) (nm := 5702) (sz' := 5) (fun i => eTBlock (([] : List TBlock).getD i (default : TBlock))) 43 rfl rfl (nl rfl) rfl (.inr rfl)) (le_restrict_eq (st' := (⟨[(5, (Q368 a_n)), (6, (Q371 a_p1)), (7, (.ptr 7 0)), (8, Q369)], [(7, .row [Q365, Q369, (AV.list 5 eTBlock (default : TBlock) ([] : List TBlock) (.own 5702))]), (5702, .tok 5 43 (([] : List TBlock).length))]⟩ : St)) [5, 6, 7, 8] [7, 5702] (by kernel_rfl) (no_hand hΓ)))) ?_
    obtain ⟨x12, hx12, h⟩ := bind_some h
    refine awp_loop (fun ((i2, l3) : (Int × List (TBlock))) => (⟨[(5, (Q368 a_n)), (6, (Q371 a_p1)), (7, (.ptr 7 0)), (8, (.int .i64 i2))], [(7, .row [Q365, Q369, (Q373 l3)]), (5702, .tok 5 43 l3.length)]⟩ : St)) _ (fun (l4 : List (TBlock)) (e : Exit) (st : St) => e = (.exit 0) ∧ Le Γ st (⟨[(5, (Q368 a_n)), (6, (Q371 a_p1)), (7, (.ptr 7 0))], [(7, .row [Q365, Q369, (AV.list 5 eTBlock (default : TBlock) l4 (.own 5702))]), (5702, .tok 5 43 l4.length)]⟩ : St)) ?_ hx12 ?_
    · rintro ⟨i2, l3⟩ y h
      unfold m_locksteplaw04_CodeSizes_L2 at h
      refine awp_seq ?_
      refine awp_seq ?_
      refine awp_region (rs := []) (cs := []) (live := [5, 6, 7, 8, 27]) (names := [7, 5702]) (st' := (⟨[(5, (Q368 a_n)), (6, (Q371 a_p1)), (7, (.ptr 7 0)), (8, (.int .i64 i2)), (27, (.bool (decide ((i2 : Int) < (Q378 a_n)))))], [(7, .row [Q365, Q369, (Q373 l3)]), (5702, .tok 5 43 l3.length)]⟩ : St)) (obs := []) hn mix (no_hand hΓ) (by kernel_rfl) trivial ?_
      refine then_normal ?_
      refine awp_cond (decide ((i2 : Int) < (Q378 a_n))) (by kernel_rfl) (fun hb => ?_) (fun hb => ?_)
      · replace h := cond_t hb h
        clear hb
        refine awp_skip ?_
        refine then_normal ?_
        refine awp_seq ?_
        refine awp_block ?_
        refine awp_seq ?_
        refine awp_region (rs := []) (cs := []) (live := [5, 6, 7, 8, 9]) (names := [7, 9, 5702]) (st' := (⟨[(5, (Q368 a_n)), (6, (Q371 a_p1)), (7, (.ptr 7 0)), (8, (.int .i64 i2)), (9, (.ptr 9 0))], [(7, .row [Q365, Q369, (Q373 l3)]), (9, .row [Q365, Q365, Q369, Q369, Q365]), (5702, .tok 5 43 l3.length)]⟩ : St)) (obs := []) hn mix (no_hand hΓ) (by kernel_rfl) trivial ?_
        refine then_normal ?_
        refine awp_seq ?_
        refine awp_seq ?_
        refine awp_region (rs := []) (cs := []) (live := [5, 6, 7, 8, 9, 10]) (names := [7, 9, 5702]) (st' := (Q382 a_n a_p1 i2 l3)) (obs := []) hn mix (no_hand hΓ) (by kernel_rfl) trivial ?_
        refine then_normal ?_
        refine awp_block ?_
        refine awp_le (st' := (fun ((i5, l6) : (Int × List (TOp))) => (⟨(Q383 a_n a_p1 i2 i5), (Q379 l3 l6)⟩ : St)) ((0 : Int), ([] : List TOp))) (Le.trans (le_restrict_eq (st' := (Q382 a_n a_p1 i2 l3)) [5, 6, 7, 8, 9, 10] [7, 9, 5702] (by kernel_rfl) (no_hand hΓ)) (Le.trans (le_tag_cell (r := 9) (j := 1) (nm := 5901) (sz' := 6) (fun i => eTOp (([] : List TOp).getD i (default : TOp))) 46 rfl rfl (nl rfl) rfl (.inr rfl)) (le_restrict_eq (st' := (⟨[(5, (Q368 a_n)), (6, (Q371 a_p1)), (7, (.ptr 7 0)), (8, (.int .i64 i2)), (9, (.ptr 9 0)), (10, Q369)], [(7, .row [Q365, Q369, (Q373 l3)]), (9, .row [Q365, (AV.list 6 eTOp (default : TOp) ([] : List TOp) (.own 5901)), Q369, Q369, Q365]), (5702, .tok 5 43 l3.length), (5901, .tok 6 46 (([] : List TOp).length))]⟩ : St)) [5, 6, 7, 8, 9, 10] [7, 9, 5702, 5901] (by kernel_rfl) (no_hand hΓ)))) ?_
        obtain ⟨x9, hx9, h⟩ := bind_some h
        refine awp_loop (fun ((i5, l6) : (Int × List (TOp))) => (⟨(Q383 a_n a_p1 i2 i5), (Q379 l3 l6)⟩ : St)) _ (fun (l7 : List (TOp)) (e : Exit) (st : St) => e = (.exit 2) ∧ Le Γ st (⟨[(5, (Q368 a_n)), (6, (Q371 a_p1)), (7, (.ptr 7 0)), (8, (.int .i64 i2)), (9, (.ptr 9 0))], [(7, .row [Q365, Q369, (Q373 l3)]), (9, .row [Q365, (AV.list 6 eTOp (default : TOp) l7 (.own 5901)), Q369, Q369, Q365]), (5702, .tok 5 43 l3.length), (5901, .tok 6 46 l7.length)]⟩ : St)) ?_ hx9 ?_
        · rintro ⟨i5, l6⟩ y h
          unfold m_locksteplaw04_CodeSizes_L1 at h
          refine awp_seq ?_
          refine awp_seq ?_
          refine awp_region (rs := []) (cs := []) (live := [5, 6, 7, 8, 9, 10, 32]) (names := [7, 9, 5702, 5901]) (st' := (⟨[(5, (Q368 a_n)), (6, (Q371 a_p1)), (7, (.ptr 7 0)), (8, (.int .i64 i2)), (9, (.ptr 9 0)), (10, (.int .i64 i5)), (32, (.bool (decide ((i5 : Int) < (Int.tmod (w64 a_p1) (12 : Int))))))], (Q379 l3 l6)⟩ : St)) (obs := []) hn mix (no_hand hΓ) (by kernel_rfl) trivial ?_
          refine then_normal ?_
          refine awp_cond (decide ((i5 : Int) < (Int.tmod (w64 a_p1) (12 : Int)))) (by kernel_rfl) (fun hb => ?_) (fun hb => ?_)
          · replace h := cond_t hb h
            clear hb
            refine awp_skip ?_
            refine then_normal ?_
            refine awp_seq ?_
            refine awp_block ?_
            obtain ⟨hc8, h⟩ := chk_some h
            refine awp_region (rs := []) (cs := [(37, (.agg [Q369, (.int .i64 (8 : Int)), (.int .i64 (1 : Int)), (.int .i64 (1 : Int)), Q374, (.int .u64 (0 : Int))])), (38, (AV.list 6 eTOp (default : TOp) Q367 .exact)), (39, (Q384 l6))]) (live := [5, 6, 7, 8, 9, 10]) (names := [7, 9, 5702, 5901]) (st' := (⟨(Q383 a_n a_p1 i2 i5), (Q388 l3 l6)⟩ : St)) (obs := [(1 < List.length (α := AV) [Q365, (AV.list 6 eTOp (default : TOp) l6 (.own 5901)), Q369, Q369, Q365]), (AVle (.agg [Q369, (.int .i64 (8 : Int)), (.int .i64 (1 : Int)), (.int .i64 (1 : Int)), Q365, (.int .u64 (0 : Int))]) (.agg [Q369, (.int .i64 (8 : Int)), (.int .i64 (1 : Int)), (.int .i64 (1 : Int)), Q374, (.int .u64 (0 : Int))])), (AVle (.slice 6 1 (fun i => ([[Q369, (.int .i64 (8 : Int)), (.int .i64 (1 : Int)), (.int .i64 (1 : Int)), (AV.list 1 eI64 (0 : Int) ([] : List Int) .none), (.int .u64 (0 : Int))]] : List (List AV)).getD i []) .exact) (AV.list 6 eTOp (default : TOp) Q367 .exact)), (l6.length = l6.length), (l6.length + Q367.length ≤ room), (AVle (.slice 6 (l6.length + Q367.length) (appF l6.length (fun i => eTOp (l6.getD i (default : TOp))) (fun i => eTOp (Q367.getD i (default : TOp)))) (.own 5901)) (Q384 l6)), (l6.length + Q367.length = (l6 ++ Q367).length), (1 + List.length (α := AV) [(Q384 l6)] ≤ List.length (α := AV) [Q365, (AV.list 6 eTOp (default : TOp) l6 (.own 5901)), Q369, Q369, Q365])]) hn mix (no_hand hΓ) (by kernel_rfl) ⟨(nl rfl), (AVle.agg (.cons (AVle.refl _) (.cons (AVle.refl _) (.cons (AVle.refl _) (.cons (AVle.refl _) (.cons av_nil (.cons (AVle.refl _) .nil))))))), (av_lit rfl (fun i hi => map_get (e := eTOp) (d := (default : TOp)) Q367 i hi)), rfl, hc8, av_app, (len_app _ _), (nl rfl), trivial⟩ ?_
            refine block_normal ?_
            refine then_normal ?_
            refine awp_region (rs := []) (cs := []) (live := [5, 6, 7, 8, 9, 10]) (names := [7, 9, 5702, 5901]) (st' := (⟨[(5, (Q368 a_n)), (6, (Q371 a_p1)), (7, (.ptr 7 0)), (8, (.int .i64 i2)), (9, (.ptr 9 0)), (10, (.int .i64 (w64 (i5 + (1 : Int)))))], (Q388 l3 l6)⟩ : St)) (obs := []) hn mix (no_hand hΓ) (by kernel_rfl) trivial ?_
            obtain rfl := Option.some.inj h
            exact ⟨rfl, Le.refl _ _⟩
          · replace h := cond_f hb h
            clear hb
            refine awp_exit ?_
            refine then_exit ?_
            obtain rfl := Option.some.inj h
            exact ⟨(by intro hh; cases hh), rfl, le_restrict_eq [5, 6, 7, 8, 9] [7, 9, 5702, 5901] (by kernel_rfl) (no_hand hΓ)⟩
        · clear hx9
          rintro e st' ⟨rfl, hl10⟩
          refine block_here ?_
          refine then_normal ?_
          refine awp_le hl10 ?_
          obtain ⟨hc11, h⟩ := chk_some h
          refine awp_region (rs := []) (cs := [(43, (Q390 x9)), (44, (AV.list 5 eTBlock (default : TBlock) (Q366 x9) .exact)), (45, (Q380 l3 x9))]) (live := [5, 6, 7, 8]) (names := [7, 5702]) (st' := (⟨[(5, (Q368 a_n)), (6, (Q371 a_p1)), (7, (.ptr 7 0)), (8, (.int .i64 i2))], [(7, .row [Q365, Q369, (Q380 l3 x9)]), (5702, .tok 5 43 ((l3 ++ (Q366 x9)).length))]⟩ : St)) (obs := [(2 < List.length (α := AV) [Q365, Q369, (Q373 l3)]), (0 + 5 ≤ List.length (α := AV) [Q365, (AV.list 6 eTOp (default : TOp) x9 (.own 5901)), Q369, Q369, Q365]), (AVle (.agg [Q365, (AV.list 6 eTOp (default : TOp) x9 (.own 5901)), Q369, Q369, Q365]) (Q390 x9)), (AVle (.slice 5 1 (fun i => ([[(AV.list 4 eTPhi (default : TPhi) ([] : List TPhi) .none), (AV.list 6 eTOp (default : TOp) x9 .none), Q369, Q369, (AV.list 1 eI64 (0 : Int) ([] : List Int) .none)]] : List (List AV)).getD i []) .exact) (AV.list 5 eTBlock (default : TBlock) (Q366 x9) .exact)), (l3.length = l3.length), (l3.length + (Q366 x9).length ≤ room), (AVle (.slice 5 (l3.length + (Q366 x9).length) (appF l3.length (fun i => eTBlock (l3.getD i (default : TBlock))) (fun i => eTBlock ((Q366 x9).getD i (default : TBlock)))) (.own 5702)) (Q380 l3 x9)), (l3.length + (Q366 x9).length = (l3 ++ (Q366 x9)).length), (2 + List.length (α := AV) [(Q380 l3 x9)] ≤ List.length (α := AV) [Q365, Q369, (Q373 l3)])]) hn mix (no_hand hΓ) (by kernel_rfl) ⟨(nl rfl), (nl rfl), (AVle.agg (.cons av_nil (.cons (AVle.refl _) (.cons (AVle.refl _) (.cons (AVle.refl _) (.cons av_nil .nil)))))), (av_lit rfl (fun i hi => map_get (e := eTBlock) (d := (default : TBlock)) (Q366 x9) i hi)), rfl, hc11, av_app, (len_app _ _), (nl rfl), trivial⟩ ?_
          refine block_normal ?_
          refine then_normal ?_
          refine awp_region (rs := []) (cs := []) (live := [5, 6, 7, 8]) (names := [7, 5702]) (st' := (⟨[(5, (Q368 a_n)), (6, (Q371 a_p1)), (7, (.ptr 7 0)), (8, (.int .i64 (w64 (i2 + (1 : Int)))))], [(7, .row [Q365, Q369, (Q380 l3 x9)]), (5702, .tok 5 43 ((l3 ++ (Q366 x9)).length))]⟩ : St)) (obs := []) hn mix (no_hand hΓ) (by kernel_rfl) trivial ?_
          obtain rfl := Option.some.inj h
          exact ⟨rfl, Le.refl _ _⟩
      · replace h := cond_f hb h
        clear hb
        refine awp_exit ?_
        refine then_exit ?_
        obtain rfl := Option.some.inj h
        exact ⟨(by intro hh; cases hh), rfl, le_restrict_eq [5, 6, 7] [7, 5702] (by kernel_rfl) (no_hand hΓ)⟩
    · clear hx12
      rintro e st' ⟨rfl, hl13⟩
      refine block_here ?_
      refine then_normal ?_
      refine awp_le hl13 ?_
      refine awp_seq ?_
      refine awp_region (rs := []) (cs := []) (live := [5, 7, 11]) (names := [7, 5702]) (st' := (⟨[(5, (Q368 a_n)), (7, (.ptr 7 0)), (11, (.int .i64 (w64 ((Q378 a_n) * (Q385 a_p1)))))], [(7, .row (Q389 x12)), (5702, .tok 5 43 x12.length)]⟩ : St)) (obs := []) hn mix (no_hand hΓ) (by kernel_rfl) trivial ?_
      refine then_normal ?_
      refine awp_seq ?_
      refine awp_region (rs := []) (cs := []) (live := [7, 11, 12]) (names := [7, 5702]) (st' := (⟨[(7, (.ptr 7 0)), (11, (.int .i64 (w64 ((Q378 a_n) * (Q385 a_p1))))), (12, (.bool (Q363 a_n a_p1)))], [(7, .row (Q389 x12)), (5702, .tok 5 43 x12.length)]⟩ : St)) (obs := [(((decide (((Q378 a_n) : Int) ≤ (64 : Int))) == true) = true → ((decide (((Q378 a_n) : Int) ≤ (64 : Int))) == true) = true), ((decide (((Q378 a_n) : Int) ≤ (64 : Int))) = true → ((decide (((Q378 a_n) : Int) ≤ (64 : Int))) == true) = true)]) hn mix (no_hand hΓ) (by kernel_rfl) ⟨(fun hg => hg), gT, trivial⟩ ?_
      refine then_normal ?_
      refine awp_seq ?_
      obtain ⟨x14, hx14, h⟩ := bind_some h
      refine awp_region (rs := [⟨[], [(20000, 58)], (AV.list 1 eU8 (0 : Int) x14 (.own 20000)), [(20000, .tok 1 5 x14.length)]⟩]) (cs := [(57, (Q392 x12))]) (live := [7, 11, 12, 13]) (names := [7, 58, 5702]) (st' := (⟨[(7, (.ptr 7 0)), (11, (.int .i64 (w64 ((Q378 a_n) * (Q385 a_p1))))), (12, (.bool (Q363 a_n a_p1))), (13, (AV.list 1 eU8 (0 : Int) x14 (.own 58)))], [(7, .row (Q389 x12)), (58, .tok 1 5 x14.length), (5702, .tok 5 43 x12.length)]⟩ : St)) (obs := [(0 + 3 ≤ List.length (α := AV) (Q389 x12)), (AVle (.agg (Q389 x12)) (Q392 x12)), (Spec Try.prog 10 (Q381 x12) [] (AV.list 1 eU8 (0 : Int) x14 (.own 20000)) [(20000, .tok 1 5 x14.length)])]) hn mix (no_hand hΓ) (by kernel_rfl) ⟨(nl rfl), (AVle.agg (.cons av_nil (.cons (AVle.refl _) (.cons (AVle.refl _) .nil)))), (ok_code_Encode (⟨([] : List Int), (0 : Int), x12⟩ : TFunc) x14 hx14), trivial⟩ ?_
      refine then_normal ?_
      refine awp_seq ?_
      obtain ⟨x15, hx15, h⟩ := bind_some h
      refine awp_region (rs := [⟨[], [], (.tuple [(.agg (eTFunc x15.1)), (.int .i64 x15.2)]), []⟩]) (cs := []) (live := [7, 11, 12, 13, 14, 15]) (names := [7, 14, 58, 5702]) (st' := (⟨[(7, (.ptr 7 0)), (11, (.int .i64 (w64 ((Q378 a_n) * (Q385 a_p1))))), (12, (.bool (Q363 a_n a_p1))), (13, (AV.list 1 eU8 (0 : Int) x14 (.own 58))), (14, (.ptr 14 0)), (15, (.int .i64 x15.2))], [(7, .row (Q389 x12)), (14, .row (Q391 x15)), (58, .tok 1 5 x14.length), (5702, .tok 5 43 x12.length)]⟩ : St)) (obs := [(Spec Try.prog 17 [(AV.list 1 eU8 (0 : Int) x14 .none)] [] (.tuple [(.agg (eTFunc x15.1)), (.int .i64 x15.2)]) []), (0 + List.length (α := AV) (eTFunc x15.1) ≤ List.length (α := AV) [Q365, Q369, Q365])]) hn mix (no_hand hΓ) (by kernel_rfl) ⟨(ok_code_Decode x14 x15 hx15), (nl rfl), trivial⟩ ?_
      refine then_normal ?_
      refine awp_seq ?_
      obtain ⟨x16, hx16, h⟩ := bind_some h
      obtain ⟨x17, hx17, h⟩ := bind_some h
      obtain ⟨x18, hx18, h⟩ := bind_some h
      refine awp_region (rs := [⟨[], [], (.int .i64 x16), []⟩, ⟨[], [], (.bool x17), []⟩, ⟨[], [], (.int .i64 x18), []⟩]) (cs := [(64, (Q392 x12)), (69, (Q392 x12))]) (live := [4]) (names := []) (st' := (⟨[(4, (.bool (bif (Q375 x16 a_n a_p1 x17 x14 x15) then (bif (!(Q363 a_n a_p1)) then true else ((x18 : Int) == (w64 ((Q378 a_n) * (Q385 a_p1))))) else false)))], []⟩ : St)) (obs := [(0 + 3 ≤ List.length (α := AV) (Q389 x12)), (AVle (.agg (Q389 x12)) (Q392 x12)), (Spec Try.prog 13 (Q381 x12) [] (.int .i64 x16) []), (((Q364 x16 a_n a_p1) == true) = true → (0 + 3 ≤ List.length (α := AV) (Q389 x12))), (((Q364 x16 a_n a_p1) == true) = true → (AVle (.agg (Q389 x12)) (Q392 x12))), (((Q364 x16 a_n a_p1) == true) = true → ((Q364 x16 a_n a_p1) == true) = true), (((Q364 x16 a_n a_p1) == true) = true → (Spec Try.prog 11 (Q381 x12) [] (.bool x17) [])), (((Q364 x16 a_n a_p1) == true) = true → ((Q364 x16 a_n a_p1) == true) = true), (((Q364 x16 a_n a_p1) == true) = true → ((Q364 x16 a_n a_p1) == true) = true), ((Q364 x16 a_n a_p1) = true → ((Q364 x16 a_n a_p1) == true) = true), ((Q377 x16 a_n a_p1 x17) = true → (Q377 x16 a_n a_p1 x17) = true), ((Q377 x16 a_n a_p1 x17) = true → (Q377 x16 a_n a_p1 x17) = true), ((Q377 x16 a_n a_p1 x17) = true → (Q377 x16 a_n a_p1 x17) = true), ((Q377 x16 a_n a_p1 x17) = true → (Q377 x16 a_n a_p1 x17) = true), ((bif (Q364 x16 a_n a_p1) then (x17 == (Q363 a_n a_p1)) else false) = true → (Q377 x16 a_n a_p1 x17) = true), ((Q376 x16 a_n a_p1 x17 x14) = true → (Q376 x16 a_n a_p1 x17 x14) = true), ((Q376 x16 a_n a_p1 x17 x14) = true → (Q376 x16 a_n a_p1 x17 x14) = true), ((Q376 x16 a_n a_p1 x17 x14) = true → (Q376 x16 a_n a_p1 x17 x14) = true), ((bif (bif (Q364 x16 a_n a_p1) then (x17 == (Q363 a_n a_p1)) else false) then ((Q370 x14) == (Q363 a_n a_p1)) else false) = true → (Q376 x16 a_n a_p1 x17 x14) = true), (((Q375 x16 a_n a_p1 x17 x14 x15) == true) = true → ((Q375 x16 a_n a_p1 x17 x14 x15) == true) = true), (((Q375 x16 a_n a_p1 x17 x14 x15) == true) = true → ((Q375 x16 a_n a_p1 x17 x14 x15) == true) = true), ((Q387 x16 a_n a_p1 x17 x14 x15) = true → (0 + 3 ≤ List.length (α := AV) (Q391 x15))), ((Q387 x16 a_n a_p1 x17 x14 x15) = true → (Q387 x16 a_n a_p1 x17 x14 x15) = true), ((Q387 x16 a_n a_p1 x17 x14 x15) = true → (Spec Try.prog 13 [(.agg (eTFunc x15.1))] [] (.int .i64 x18) [])), ((Q387 x16 a_n a_p1 x17 x14 x15) = true → (Q387 x16 a_n a_p1 x17 x14 x15) = true), ((Q387 x16 a_n a_p1 x17 x14 x15) = true → (Q387 x16 a_n a_p1 x17 x14 x15) = true), (((Q375 x16 a_n a_p1 x17 x14 x15) == true) = true → ((Q375 x16 a_n a_p1 x17 x14 x15) == true) = true), (((Q375 x16 a_n a_p1 x17 x14 x15) == true) = true → ((!(Q363 a_n a_p1)) = false → (Q387 x16 a_n a_p1 x17 x14 x15) = true)), ((Q375 x16 a_n a_p1 x17 x14 x15) = true → ((Q375 x16 a_n a_p1 x17 x14 x15) == true) = true)]) hn mix (no_hand hΓ) (by kernel_rfl) ⟨(nl rfl), (AVle.agg (.cons av_nil (.cons (AVle.refl _) (.cons (AVle.refl _) .nil)))), (ok_code_Size (⟨([] : List Int), (0 : Int), x12⟩ : TFunc) x16 hx16), (fun hg => (nl rfl)), (fun hg => (AVle.agg (.cons av_nil (.cons (AVle.refl _) (.cons (AVle.refl _) .nil))))), (fun hg => hg), (fun hg => (ok_code_May (⟨([] : List Int), (0 : Int), x12⟩ : TFunc) x17 (cond_t hg hx17))), (fun hg => hg), (fun hg => hg), gT, (fun hg => hg), (fun hg => hg), (fun hg => hg), (fun hg => hg), gT, (fun hg => hg), (fun hg => hg), (fun hg => hg), gT, (fun hg => hg), (fun hg => hg), (fun hg => (nl rfl)), (fun hg => hg), (fun hg => (ok_code_Size x15.1 x18 (cond_t hg hx18))), (fun hg => hg), (fun hg => hg), (fun hg => hg), (fun hg => (aF hg)), gT, trivial⟩ ?_
      refine then_normal ?_
      refine awp_ret ?_
      obtain rfl := Option.some.inj h
      exact ⟨.inl rfl, [], by kernel_rfl⟩

noncomputable def Q395 (x8 : (TFunc × Int)) := (((x8.2 : Int) != (0 : Int)) == false)
noncomputable def Q398 (x8 : (TFunc × Int)) (x10 : Bool) := ((Q395 x8) && ((!x10) == true))
noncomputable def Q397 (x8 : (TFunc × Int)) := (((x8.2 : Int) == (0 : Int)) == true)
noncomputable def Q394 (a_f : TFunc) : List AV := [(AV.list 1 eI64 (0 : Int) a_f.Params .none), (.int .i64 a_f.Ret), (AV.list 5 eTBlock (default : TBlock) a_f.Blocks .none)]
noncomputable def Q396 (x8 : (TFunc × Int)) : List AV := [(AV.list 1 eI64 (0 : Int) x8.1.Params .none), (.int .i64 x8.1.Ret), (AV.list 5 eTBlock (default : TBlock) x8.1.Blocks .none)]
noncomputable def Q393 (x3 : List (Int)) (a_p1 : Int) (a_p2 : Int) := (x3.set ((Int.tmod (w64 a_p1) (x3.length : Int))).toNat (bitsV .xor .u8 (x3.getD ((Int.tmod (w64 a_p1) (x3.length : Int))).toNat (0 : Int)) a_p2))
noncomputable def m_locksteplaw04_CodeTurned (a_f : TFunc) (a_p1 : Int) (a_p2 : Int) : Option Bool :=
  ((m_locksteplaw04_awake).bind fun x1 => (bif (!x1) then (some false) else ((m_lockstepref04_Small a_f).bind fun x2 => (bif (!x2) then (some true) else ((m_code_Encode a_f).bind fun x3 => (bif (((x3.length : Int) : Int) == (0 : Int)) then (some true) else (chk (x3.length ≤ room) (chk ((x3.length : Int) ≠ 0) (chk (InB (Int.tmod (w64 a_p1) (x3.length : Int)) x3.length) (chk (InB (Int.tmod (w64 a_p1) (x3.length : Int)) x3.length) ((m_code_Decode (x3.set ((Int.tmod (w64 a_p1) (x3.length : Int))).toNat (bitsV .xor .u8 (x3.getD ((Int.tmod (w64 a_p1) (x3.length : Int))).toNat (0 : Int)) a_p2))).bind fun x8 => (bif ((a_p2 : Int) == (0 : Int)) then ((bif (((x8.2 : Int) == (0 : Int)) == true) then m_code_Same x8.1 a_f else some false).bind fun x9 => (some (bif ((x8.2 : Int) == (0 : Int)) then x9 else false))) else ((bif (((x8.2 : Int) != (0 : Int)) == false) then m_code_Same x8.1 a_f else some false).bind fun x10 => ((bif ((((x8.2 : Int) != (0 : Int)) == false) && ((!x10) == true)) then m_code_Encode x8.1 else some []).bind fun x11 => ((bif ((((x8.2 : Int) != (0 : Int)) == false) && ((!x10) == true)) then m_lockstepref02_Same x11 (x3.set ((Int.tmod (w64 a_p1) (x3.length : Int))).toNat (bitsV .xor .u8 (x3.getD ((Int.tmod (w64 a_p1) (x3.length : Int))).toNat (0 : Int)) a_p2)) else some false).bind fun x12 => (some (bif ((x8.2 : Int) != (0 : Int)) then true else (bif (!x10) then x12 else false))))))))))))))))))
theorem ok_locksteplaw04_CodeTurned (a_f : TFunc) (a_p1 : Int) (a_p2 : Int) (r : Bool) (h : m_locksteplaw04_CodeTurned a_f a_p1 a_p2 = some r) : Spec Try.prog 7 [(.agg (eTFunc a_f)), (.int .u16 a_p1), (.int .u8 a_p2)] [] (.bool r) [] := by
  refine spec_of_awp (fn := Try.f7) Try.func7 rfl rfl (by kernel_rfl) (fun Γ hn hΓ => ?_)
  have hn : Γ.n = 67 := hn
  unfold m_locksteplaw04_CodeTurned at h
  refine awp_seq ?_
  refine awp_region (rs := []) (cs := []) (live := [1, 2, 3]) (names := [3]) (st' := (⟨[(1, (.int .u16 a_p1)), (2, (.int .u8 a_p2)), (3, (.ptr 3 0))], [(3, .row (Q394 a_f))]⟩ : St)) (obs := []) hn mix (no_hand hΓ) (by kernel_rfl) trivial ?_
  refine then_normal ?_
  refine awp_seq ?_
  refine awp_seq ?_
  obtain ⟨x1, hx1, h⟩ := bind_some h
  refine awp_region (rs := [⟨[], [], (.bool x1), []⟩]) (cs := []) (live := [1, 2, 3, 13]) (names := [3]) (st' := (⟨[(1, (.int .u16 a_p1)), (2, (.int .u8 a_p2)), (3, (.ptr 3 0)), (13, (.bool (!x1)))], [(3, .row (Q394 a_f))]⟩ : St)) (obs := [(Spec Try.prog 8 [] [] (.bool x1) [])]) hn mix (no_hand hΓ) (by kernel_rfl) ⟨(ok_locksteplaw04_awake  x1 hx1), trivial⟩ ?_
  refine then_normal ?_
  refine awp_cond (!x1) (by kernel_rfl) (fun hb => ?_) (fun hb => ?_)
  · replace h := cond_t hb h
    clear hb
    refine awp_seq ?_
    refine awp_region (rs := []) (cs := []) (live := [6]) (names := []) (st' := (⟨[(6, (.bool false))], []⟩ : St)) (obs := []) hn mix (no_hand hΓ) (by kernel_rfl) trivial ?_
    refine then_normal ?_
    refine awp_ret ?_
    refine then_ret ?_
    obtain rfl := Option.some.inj h
    exact ⟨.inl rfl, [], by kernel_rfl⟩
  · replace h := cond_f hb h
    clear hb
    refine awp_skip ?_
    refine then_normal ?_
    refine awp_seq ?_
    refine awp_seq ?_
    obtain ⟨x2, hx2, h⟩ := bind_some h
    refine awp_region (rs := [⟨[], [], (.bool x2), []⟩]) (cs := []) (live := [1, 2, 3, 16]) (names := [3]) (st' := (⟨[(1, (.int .u16 a_p1)), (2, (.int .u8 a_p2)), (3, (.ptr 3 0)), (16, (.bool (!x2)))], [(3, .row (Q394 a_f))]⟩ : St)) (obs := [(0 + 3 ≤ List.length (α := AV) (Q394 a_f)), (Spec Try.prog 9 [(.agg (eTFunc a_f))] [] (.bool x2) [])]) hn mix (no_hand hΓ) (by kernel_rfl) ⟨(nl rfl), (ok_lockstepref04_Small a_f x2 hx2), trivial⟩ ?_
    refine then_normal ?_
    refine awp_cond (!x2) (by kernel_rfl) (fun hb => ?_) (fun hb => ?_)
    · replace h := cond_t hb h
      clear hb
      refine awp_seq ?_
      refine awp_region (rs := []) (cs := []) (live := [6]) (names := []) (st' := (⟨[(6, (.bool true))], []⟩ : St)) (obs := []) hn mix (no_hand hΓ) (by kernel_rfl) trivial ?_
      refine then_normal ?_
      refine awp_ret ?_
      refine then_ret ?_
      obtain rfl := Option.some.inj h
      exact ⟨.inl rfl, [], by kernel_rfl⟩
    · replace h := cond_f hb h
      clear hb
      refine awp_skip ?_
      refine then_normal ?_
      refine awp_seq ?_
      obtain ⟨x3, hx3, h⟩ := bind_some h
      refine awp_region (rs := [⟨[], [(20000, 18)], (AV.list 1 eU8 (0 : Int) x3 (.own 20000)), [(20000, .tok 1 5 x3.length)]⟩]) (cs := []) (live := [1, 2, 3, 7]) (names := [3, 18]) (st' := (⟨[(1, (.int .u16 a_p1)), (2, (.int .u8 a_p2)), (3, (.ptr 3 0)), (7, (AV.list 1 eU8 (0 : Int) x3 (.own 18)))], [(3, .row (Q394 a_f)), (18, .tok 1 5 x3.length)]⟩ : St)) (obs := [(0 + 3 ≤ List.length (α := AV) (Q394 a_f)), (Spec Try.prog 10 [(.agg (eTFunc a_f))] [] (AV.list 1 eU8 (0 : Int) x3 (.own 20000)) [(20000, .tok 1 5 x3.length)])]) hn mix (no_hand hΓ) (by kernel_rfl) ⟨(nl rfl), (ok_code_Encode a_f x3 hx3), trivial⟩ ?_
      refine then_normal ?_
      refine awp_seq ?_
      refine awp_seq ?_
      refine awp_region (rs := []) (cs := []) (live := [1, 2, 3, 7, 21]) (names := [3, 18]) (st' := (⟨[(1, (.int .u16 a_p1)), (2, (.int .u8 a_p2)), (3, (.ptr 3 0)), (7, (AV.list 1 eU8 (0 : Int) x3 (.own 18))), (21, (.bool (((x3.length : Int) : Int) == (0 : Int))))], [(3, .row (Q394 a_f)), (18, .tok 1 5 x3.length)]⟩ : St)) (obs := []) hn mix (no_hand hΓ) (by kernel_rfl) trivial ?_
      refine then_normal ?_
      refine awp_cond (((x3.length : Int) : Int) == (0 : Int)) (by kernel_rfl) (fun hb => ?_) (fun hb => ?_)
      · replace h := cond_t hb h
        clear hb
        refine awp_seq ?_
        refine awp_region (rs := []) (cs := []) (live := [6]) (names := []) (st' := (⟨[(6, (.bool true))], []⟩ : St)) (obs := []) hn mix (no_hand hΓ) (by kernel_rfl) trivial ?_
        refine then_normal ?_
        refine awp_ret ?_
        refine then_ret ?_
        obtain rfl := Option.some.inj h
        exact ⟨.inl rfl, [], by kernel_rfl⟩
      · replace h := cond_f hb h
        clear hb
        refine awp_skip ?_
        refine then_normal ?_
        refine awp_seq ?_
        obtain ⟨hc4, h⟩ := chk_some h
        refine awp_region (rs := []) (cs := [(22, (AV.list 1 eU8 (0 : Int) ([] : List Int) .exact)), (24, .vsl 24 0)]) (live := [1, 2, 3, 8]) (names := [3, 24]) (st' := (⟨[(1, (.int .u16 a_p1)), (2, (.int .u8 a_p2)), (3, (.ptr 3 0)), (8, (.vsl 24 x3.length))], [(3, .row (Q394 a_f)), (24, .arr 1 5 x3.length (fun i => eU8 (x3.getD i (0 : Int))))]⟩ : St)) (obs := [(AVle (.slice 1 0 (fun i => ([] : List (List AV)).getD i []) .exact) (AV.list 1 eU8 (0 : Int) ([] : List Int) .exact)), (x3.length ≤ room)]) hn mix (no_hand hΓ) (by kernel_rfl) ⟨av_lit rfl (fun i hi => absurd hi (Nat.not_lt_zero i)), hc4, trivial⟩ ?_
        refine then_normal ?_
        refine awp_seq ?_
        obtain ⟨hc5, h⟩ := chk_some h
        refine awp_region (rs := []) (cs := []) (live := [2, 3, 8, 9]) (names := [3, 24]) (st' := (⟨[(2, (.int .u8 a_p2)), (3, (.ptr 3 0)), (8, (.vsl 24 x3.length)), (9, (.int .i64 (Int.tmod (w64 a_p1) (x3.length : Int))))], [(3, .row (Q394 a_f)), (24, .arr 1 5 x3.length (fun i => eU8 (x3.getD i (0 : Int))))]⟩ : St)) (obs := [((x3.length : Int) ≠ 0)]) hn mix (no_hand hΓ) (by kernel_rfl) ⟨hc5, trivial⟩ ?_
        refine then_normal ?_
        refine awp_seq ?_
        obtain ⟨hc6, h⟩ := chk_some h
        obtain ⟨hc7, h⟩ := chk_some h
        refine awp_region (rs := []) (cs := []) (live := [2, 3, 8]) (names := [3, 24]) (st' := (⟨[(2, (.int .u8 a_p2)), (3, (.ptr 3 0)), (8, (.vsl 24 x3.length))], [(3, .row (Q394 a_f)), (24, .arr 1 5 x3.length (fun i_ => AV.eraseAll (fun n_ => memB n_ [3, 24]) ((putF (fun i => eU8 (x3.getD i (0 : Int))) ((Int.tmod (w64 a_p1) (x3.length : Int))).toNat 0 [(.int .u8 (bitsV .xor .u8 (x3.getD ((Int.tmod (w64 a_p1) (x3.length : Int))).toNat (0 : Int)) a_p2))]) i_)))]⟩ : St)) (obs := [(InB (Int.tmod (w64 a_p1) (x3.length : Int)) x3.length), (x3.length = x3.length), (InB (Int.tmod (w64 a_p1) (x3.length : Int)) x3.length), (x3.length = x3.length)]) hn mix (no_hand hΓ) (by kernel_rfl) ⟨hc6, rfl, hc7, rfl, trivial⟩ ?_
        refine then_normal ?_
        refine awp_le (Le.trans (le_of (st' := (⟨[(2, (.int .u8 a_p2)), (3, (.ptr 3 0)), (8, (.vsl 24 x3.length))], [(3, .row (Q394 a_f)), (24, .arr 1 5 x3.length (fun i => eU8 ((Q393 x3 a_p1 a_p2).getD i (0 : Int))))]⟩ : St)) (TmpsLe.refl _) (.same (.arr (leL_of_eq (List.length_set ..).symm (fun k_ hk_ => (congrArg (AV.eraseAll (fun n_ => memB n_ [3, 24])) ((putF_set (fun _ _ => rfl) (inB_lt0 hc7) rfl) k_ hk_)).trans rfl)) .nil))) (le_eq (congrArg (fun k_ : Nat => (⟨[(2, (.int .u8 a_p2)), (3, (.ptr 3 0)), (8, (.vsl 24 k_))], [(3, .row (Q394 a_f)), (24, .arr 1 5 k_ (fun i => eU8 ((Q393 x3 a_p1 a_p2).getD i (0 : Int))))]⟩ : St)) (show x3.length = (Q393 x3 a_p1 a_p2).length from (List.length_set ..).symm)))) ?_
        refine awp_seq ?_
        refine awp_le (Le.trans (le_freeze (nm := 24) (sz := 1) (n := ((Q393 x3 a_p1 a_p2).length)) (e := 5) (f := (fun i => eU8 ((Q393 x3 a_p1 a_p2).getD i (0 : Int)))) (g := (fun i => eU8 ((Q393 x3 a_p1 a_p2).getD i (0 : Int)))) rfl ⟨rfl, trivial⟩ (fun _ _ => rfl) (by rw [hΓ]; rfl)) (le_eq (st' := (⟨[(2, (.int .u8 a_p2)), (3, (.ptr 3 0)), (8, (AV.list 1 eU8 (0 : Int) (Q393 x3 a_p1 a_p2) (.own 24)))], [(3, .row (Q394 a_f)), (24, .tok 1 5 ((Q393 x3 a_p1 a_p2).length))]⟩ : St)) (by kernel_rfl))) ?_
        obtain ⟨x8, hx8, h⟩ := bind_some h
        refine awp_region (rs := [⟨[], [], (.tuple [(.agg (eTFunc x8.1)), (.int .i64 x8.2)]), []⟩]) (cs := []) (live := [2, 3, 8, 10, 11]) (names := [3, 10, 24]) (st' := (⟨[(2, (.int .u8 a_p2)), (3, (.ptr 3 0)), (8, (AV.list 1 eU8 (0 : Int) (Q393 x3 a_p1 a_p2) (.own 24))), (10, (.ptr 10 0)), (11, (.int .i64 x8.2))], [(3, .row (Q394 a_f)), (10, .row (Q396 x8)), (24, .tok 1 5 ((Q393 x3 a_p1 a_p2).length))]⟩ : St)) (obs := [(Spec Try.prog 17 [(AV.list 1 eU8 (0 : Int) (Q393 x3 a_p1 a_p2) .none)] [] (.tuple [(.agg (eTFunc x8.1)), (.int .i64 x8.2)]) []), (0 + List.length (α := AV) (eTFunc x8.1) ≤ List.length (α := AV) [(.slice 0 0 (fun _ => []) .exact), (.int .i64 (0 : Int)), (.slice 0 0 (fun _ => []) .exact)])]) hn mix (no_hand hΓ) (by kernel_rfl) ⟨(ok_code_Decode (Q393 x3 a_p1 a_p2) x8 hx8), (nl rfl), trivial⟩ ?_
        refine then_normal ?_
        refine awp_seq ?_
        refine awp_seq ?_
        refine awp_region (rs := []) (cs := []) (live := [3, 8, 10, 11, 45]) (names := [3, 10, 24]) (st' := (⟨[(3, (.ptr 3 0)), (8, (AV.list 1 eU8 (0 : Int) (Q393 x3 a_p1 a_p2) (.own 24))), (10, (.ptr 10 0)), (11, (.int .i64 x8.2)), (45, (.bool ((a_p2 : Int) == (0 : Int))))], [(3, .row (Q394 a_f)), (10, .row (Q396 x8)), (24, .tok 1 5 ((Q393 x3 a_p1 a_p2).length))]⟩ : St)) (obs := []) hn mix (no_hand hΓ) (by kernel_rfl) trivial ?_
        refine then_normal ?_
        refine awp_cond ((a_p2 : Int) == (0 : Int)) (by kernel_rfl) (fun hb => ?_) (fun hb => ?_)
        · replace h := cond_t hb h
          clear hb
          refine awp_seq ?_
          obtain ⟨x9, hx9, h⟩ := bind_some h
          refine awp_region (rs := [⟨[], [], (.bool x9), []⟩]) (cs := []) (live := [6]) (names := []) (st' := (⟨[(6, (.bool (bif ((x8.2 : Int) == (0 : Int)) then x9 else false)))], []⟩ : St)) (obs := [((Q397 x8) = true → (0 + 3 ≤ List.length (α := AV) (Q396 x8))), ((Q397 x8) = true → (0 + 3 ≤ List.length (α := AV) (Q394 a_f))), ((Q397 x8) = true → (Q397 x8) = true), ((Q397 x8) = true → (Q397 x8) = true), ((Q397 x8) = true → (Spec Try.prog 19 [(.agg (eTFunc x8.1)), (.agg (eTFunc a_f))] [] (.bool x9) [])), (((x8.2 : Int) == (0 : Int)) = true → (Q397 x8) = true)]) hn mix (no_hand hΓ) (by kernel_rfl) ⟨(fun hg => (nl rfl)), (fun hg => (nl rfl)), (fun hg => hg), (fun hg => hg), (fun hg => (ok_code_Same x8.1 a_f x9 (cond_t hg hx9))), gT, trivial⟩ ?_
          refine then_normal ?_
          refine awp_ret ?_
          refine then_ret ?_
          obtain rfl := Option.some.inj h
          exact ⟨.inl rfl, [], by kernel_rfl⟩
        · replace h := cond_f hb h
          clear hb
          refine awp_skip ?_
          refine then_normal ?_
          refine awp_seq ?_
          obtain ⟨x10, hx10, h⟩ := bind_some h
          obtain ⟨x11, hx11, h⟩ := bind_some h
          obtain ⟨x12, hx12, h⟩ := bind_some h
          refine awp_region (rs := [⟨[], [], (.bool x10), []⟩, ⟨[], [], (AV.list 1 eU8 (0 : Int) x11 .none), []⟩, ⟨[], [], (.bool x12), []⟩]) (cs := []) (live := [6]) (names := []) (st' := (⟨[(6, (.bool (bif ((x8.2 : Int) != (0 : Int)) then true else (bif (!x10) then x12 else false))))], []⟩ : St)) (obs := [((Q395 x8) = true → (0 + 3 ≤ List.length (α := AV) (Q396 x8))), ((Q395 x8) = true → (0 + 3 ≤ List.length (α := AV) (Q394 a_f))), ((Q395 x8) = true → (Q395 x8) = true), ((Q395 x8) = true → (Q395 x8) = true), ((Q395 x8) = true → (Spec Try.prog 19 [(.agg (eTFunc x8.1)), (.agg (eTFunc a_f))] [] (.bool x10) [])), ((Q395 x8) = true → (Q395 x8) = true), ((Q395 x8) = true → (Q395 x8) = true), ((Q398 x8 x10) = true → (0 + 3 ≤ List.length (α := AV) (Q396 x8))), ((Q398 x8 x10) = true → (Q398 x8 x10) = true), ((Q398 x8 x10) = true → (Spec Try.prog 10 [(.agg (eTFunc x8.1))] [] (AV.list 1 eU8 (0 : Int) x11 .none) [])), ((Q398 x8 x10) = true → (Q398 x8 x10) = true), ((Q398 x8 x10) = true → (Q398 x8 x10) = true), ((Q398 x8 x10) = true → (Spec Try.prog 15 [(AV.list 1 eU8 (0 : Int) x11 .none), (AV.list 1 eU8 (0 : Int) (Q393 x3 a_p1 a_p2) .none)] [] (.bool x12) [])), ((Q395 x8) = true → (Q395 x8) = true), ((Q395 x8) = true → ((!x10) = true → (Q398 x8 x10) = true)), (((x8.2 : Int) != (0 : Int)) = false → (Q395 x8) = true)]) hn mix (no_hand hΓ) (by kernel_rfl) ⟨(fun hg => (nl rfl)), (fun hg => (nl rfl)), (fun hg => hg), (fun hg => hg), (fun hg => (ok_code_Same x8.1 a_f x10 (cond_t hg hx10))), (fun hg => hg), (fun hg => hg), (fun hg => (nl rfl)), (fun hg => hg), (fun hg => (Spec.drop (ok_code_Encode x8.1 x11 (cond_t hg hx11)))), (fun hg => hg), (fun hg => hg), (fun hg => (ok_lockstepref02_Same x11 (Q393 x3 a_p1 a_p2) x12 (cond_t hg hx12))), (fun hg => hg), (fun hg => (aT hg)), gF, trivial⟩ ?_
          refine then_normal ?_
          refine awp_ret ?_
          obtain rfl := Option.some.inj h
          exact ⟨.inl rfl, [], by kernel_rfl⟩
end Go.Proofs.Ytmlldiinidkecaa
