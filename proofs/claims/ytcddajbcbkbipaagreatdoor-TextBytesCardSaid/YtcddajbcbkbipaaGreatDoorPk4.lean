/-
  The machine, the program's functions and the laws' arithmetic: part 4 of 6.
-/
import Derived.Test.YtcddajbcbkbipaaGreatDoorPk3
import Derived.Test.YtcddajbcbkbipaaGreatDoorProg
namespace Go.Proofs.YtcddajbcbkbipaaGreatDoor
open Go Go.RowKit
set_option linter.unusedVariables false
set_option maxRecDepth 100000
set_option maxHeartbeats 2000000
def eI64 (x : Int) : List AV := [(.int .i64 x)]
def eLI64 (x : List (Int)) : List AV := [(AV.list 1 eI64 (0 : Int) x .none)]
structure TPhi where
  Bits : Int
  Dst : Int
  From : List (Int)
  Args : List (Int)
  deriving Inhabited, DecidableEq
def eTPhi (x : TPhi) : List AV := [(.int .i64 x.Bits), (.int .i64 x.Dst), (AV.list 1 eI64 (0 : Int) x.From .none), (AV.list 1 eI64 (0 : Int) x.Args .none)]
def eLTPhi (x : List (TPhi)) : List AV := [(AV.list 4 eTPhi (default : TPhi) x .none)]
def eU64 (x : Int) : List AV := [(.int .u64 x)]
structure TOp where
  Kind : Int
  Bits : Int
  Lanes : Int
  Dst : Int
  Args : List (Int)
  Imm : Int
  deriving Inhabited, DecidableEq
def eTOp (x : TOp) : List AV := [(.int .i64 x.Kind), (.int .i64 x.Bits), (.int .i64 x.Lanes), (.int .i64 x.Dst), (AV.list 1 eI64 (0 : Int) x.Args .none), (.int .u64 x.Imm)]
def eLTOp (x : List (TOp)) : List AV := [(AV.list 6 eTOp (default : TOp) x .none)]
structure TEnd where
  Kind : Int
  Arg : Int
  To : List (Int)
  deriving Inhabited, DecidableEq
def eTEnd (x : TEnd) : List AV := [(.int .i64 x.Kind), (.int .i64 x.Arg), (AV.list 1 eI64 (0 : Int) x.To .none)]
structure TBlock where
  Phis : List (TPhi)
  Ops : List (TOp)
  End : TEnd
  deriving Inhabited, DecidableEq
def eTBlock (x : TBlock) : List AV := [(AV.list 4 eTPhi (default : TPhi) x.Phis .none), (AV.list 6 eTOp (default : TOp) x.Ops .none), (.int .i64 x.End.Kind), (.int .i64 x.End.Arg), (AV.list 1 eI64 (0 : Int) x.End.To .none)]
def eLTBlock (x : List (TBlock)) : List AV := [(AV.list 5 eTBlock (default : TBlock) x .none)]
structure TFunc where
  Params : List (Int)
  Ret : Int
  Blocks : List (TBlock)
  deriving Inhabited, DecidableEq
def eTFunc (x : TFunc) : List AV := [(AV.list 1 eI64 (0 : Int) x.Params .none), (.int .i64 x.Ret), (AV.list 5 eTBlock (default : TBlock) x.Blocks .none)]
def eS (x : List Int) : List AV := [(.str x)]
def eB (x : Bool) : List AV := [(.bool x)]
structure Treader where
  word : List Int
  rest : List Int
  wrong : Bool
  deriving Inhabited, DecidableEq
def eTreader (x : Treader) : List AV := [(.str x.word), (.str x.rest), (.bool x.wrong)]
def eU8 (x : Int) : List AV := [(.int .u8 x)]
def eLU8 (x : List (Int)) : List AV := [(AV.list 1 eU8 (0 : Int) x .none)]
structure Treader2 where
  rest : List (Int)
  code : Int
  deriving Inhabited, DecidableEq
def eTreader2 (x : Treader2) : List AV := [(AV.list 1 eU8 (0 : Int) x.rest .none), (.int .i64 x.code)]
theorem mix : Tryz.prog.follows .mixedOrders = true := by kernel_rfl
noncomputable def m_text_cutWord_L1 (a_s : List Int) : (Int × Nat) → Option (LR (Int × Nat) (Int ⊕ (List Int × List Int))) :=
  fun ((i1, n2) : (Int × Nat)) => (bif (Nat.blt n2 a_s.length) then (chk ((Nat.blt n2 a_s.length) = true) (chk ((Nat.blt n2 a_s.length) = true) (bif (bif (decide (((0 : Int) : Int) ≤ i1)) then (bif (bif (((runeL a_s n2) : Int) == (32 : Int)) then true else (((runeL a_s n2) : Int) == (10 : Int))) then true else (bif (((runeL a_s n2) : Int) == (40 : Int)) then true else (((runeL a_s n2) : Int) == (41 : Int)))) else false) then (chk (0 ≤ i1 ∧ i1 ≤ (n2 : Int) ∧ (n2 : Int) ≤ (a_s.length : Int)) (chk (0 ≤ (n2 : Int) ∧ (n2 : Int) ≤ (a_s.length : Int)) (some (.done (.inr (((a_s.drop (i1).toNat).take (((n2 : Int)).toNat - (i1).toNat)), (a_s.drop ((n2 : Int)).toNat))))))) else (bif (bif (((runeL a_s n2) : Int) == (40 : Int)) then true else (((runeL a_s n2) : Int) == (41 : Int))) then (chk (0 ≤ (n2 : Int) ∧ (n2 : Int) ≤ (w64 ((n2 : Int) + (1 : Int))) ∧ (w64 ((n2 : Int) + (1 : Int))) ≤ (a_s.length : Int)) (chk (0 ≤ (w64 ((n2 : Int) + (1 : Int))) ∧ (w64 ((n2 : Int) + (1 : Int))) ≤ (a_s.length : Int)) (some (.done (.inr (((a_s.drop ((n2 : Int)).toNat).take (((w64 ((n2 : Int) + (1 : Int)))).toNat - ((n2 : Int)).toNat)), (a_s.drop ((w64 ((n2 : Int) + (1 : Int)))).toNat))))))) else (bif (bif (decide ((i1 : Int) < (0 : Int))) then (!(bif (((runeL a_s n2) : Int) == (32 : Int)) then true else (((runeL a_s n2) : Int) == (10 : Int)))) else false) then (some (.next ((n2 : Int), (stepL a_s n2)))) else (some (.next (i1, (stepL a_s n2))))))))) else (some (.done (.inl i1))))
noncomputable def Q6 (n2 : Nat) := (w64 ((n2 : Int) + (1 : Int)))
noncomputable def Q3 (i1 : Int) := (decide (((0 : Int) : Int) ≤ i1))
noncomputable def Q5 (i1 : Int) := (decide ((i1 : Int) < (0 : Int)))
noncomputable def Q4 (a_s : List Int) (n2 : Nat) : List (Nat × Own) := [(10, .obj (.iter a_s (stepL a_s n2)))]
noncomputable def Q1 (a_s : List Int) (n2 : Nat) := (bif (((runeL a_s n2) : Int) == (32 : Int)) then true else (((runeL a_s n2) : Int) == (10 : Int)))
noncomputable def Q2 (a_s : List Int) (n2 : Nat) := (bif (((runeL a_s n2) : Int) == (40 : Int)) then true else (((runeL a_s n2) : Int) == (41 : Int)))
noncomputable def m_text_cutWord (a_s : List Int) : Option (List Int × List Int) :=
  ((loopO (S := (Int × Nat)) (X := (Int ⊕ (List Int × List Int))) (m_text_cutWord_L1 a_s) ((-1 : Int), 0)).bind (fun x10 => (match x10 with | (.inl i3) => (bif (decide ((i3 : Int) < (0 : Int))) then (some (([] : List Int), ([] : List Int))) else (chk (0 ≤ i3 ∧ i3 ≤ (a_s.length : Int)) (some ((a_s.drop (i3).toNat), ([] : List Int))))) | (.inr r13) => (some r13))))
theorem ok_text_cutWord (a_s : List Int) (r : (List Int × List Int)) (h : m_text_cutWord a_s = some r) : Spec Tryz.prog 66 [(.str a_s)] [] (.tuple [(.str r.1), (.str r.2)]) [] := by
  refine spec_of_awp (fn := Tryz.f66) Tryz.func66 rfl rfl (by kernel_rfl) (fun Γ hn hΓ => ?_)
  have hn : Γ.n = 67 := hn
  unfold m_text_cutWord at h
  refine rgs0 (⟨[(0, (.str a_s))], []⟩ : St) hn mix (no_hand hΓ) (by kernel_rfl) ?_
  refine rgs0 (⟨[(0, (.str a_s)), (4, (.int .i64 (-1 : Int)))], []⟩ : St) hn mix (no_hand hΓ) (by kernel_rfl) ?_
  refine awp_seq ?_
  refine rgs0 (⟨[(0, (.str a_s)), (4, (.int .i64 (-1 : Int))), (10, (.optr 10))], [(10, .obj (.iter a_s 0))]⟩ : St) hn mix (no_hand hΓ) (by kernel_rfl) ?_
  refine awp_block ?_
  refine awp_le (st' := (fun ((i1, n2) : (Int × Nat)) => (⟨[(0, (.str a_s)), (4, (.int .i64 i1)), (10, (.optr 10))], [(10, .obj (.iter a_s n2))]⟩ : St)) ((-1 : Int), 0)) (Le.refl _ _) ?_
  obtain ⟨x10, hx10, h⟩ := bind_some h
  refine awp_loop (fun ((i1, n2) : (Int × Nat)) => (⟨[(0, (.str a_s)), (4, (.int .i64 i1)), (10, (.optr 10))], [(10, .obj (.iter a_s n2))]⟩ : St)) _ (fun (x_ : (Int ⊕ (List Int × List Int))) (e : Exit) (st : St) => match x_ with | (.inl i3) => e = (.exit 0) ∧ Le Γ st (⟨[(0, (.str a_s)), (4, (.int .i64 i3))], []⟩ : St) | (.inr r_) => e = .ret ∧ retK Tryz.prog Tryz.f66.results.toList [] (.tuple [(.str r_.1), (.str r_.2)]) [] e st) ?_ hx10 ?_
  · rintro ⟨i1, n2⟩ y h
    unfold m_text_cutWord_L1 at h
    refine rgs0 (⟨[(0, (.str a_s)), (4, (.int .i64 i1)), (10, (.optr 10)), (11, (.nxt (Nat.blt n2 a_s.length) (n2 : Int) (runeL a_s n2))), (12, (.bool (Nat.blt n2 a_s.length)))], (Q4 a_s n2)⟩ : St) hn mix (no_hand hΓ) (by kernel_rfl) ?_
    refine awp_seq ?_
    refine awp_cond (Nat.blt n2 a_s.length) (by kernel_rfl) (fun hb => ?_) (fun hb => ?_)
    · replace h := cond_t hb h
      clear hb
      refine awp_skip ?_
      refine then_normal ?_
      refine awp_block ?_
      obtain ⟨hc4, h⟩ := chk_some h
      obtain ⟨hc5, h⟩ := chk_some h
      refine rgs [] [] (⟨[(0, (.str a_s)), (4, (.int .i64 i1)), (5, (.int .i64 (n2 : Int))), (6, (.int .i32 (runeL a_s n2))), (10, (.optr 10))], (Q4 a_s n2)⟩ : St) [((Nat.blt n2 a_s.length) = true), ((Nat.blt n2 a_s.length) = true)] hn mix (no_hand hΓ) (by kernel_rfl) ⟨hc4, hc5, trivial⟩ ?_
      refine rgs [] [] (⟨[(0, (.str a_s)), (4, (.int .i64 i1)), (5, (.int .i64 (n2 : Int))), (7, (.bool (Q1 a_s n2))), (8, (.bool (Q2 a_s n2))), (10, (.optr 10))], (Q4 a_s n2)⟩ : St) [(((((runeL a_s n2) : Int) == (32 : Int)) == false) = true → ((((runeL a_s n2) : Int) == (32 : Int)) == false) = true), ((((runeL a_s n2) : Int) == (32 : Int)) = false → ((((runeL a_s n2) : Int) == (32 : Int)) == false) = true), (((((runeL a_s n2) : Int) == (40 : Int)) == false) = true → ((((runeL a_s n2) : Int) == (40 : Int)) == false) = true), ((((runeL a_s n2) : Int) == (40 : Int)) = false → ((((runeL a_s n2) : Int) == (40 : Int)) == false) = true)] hn mix (no_hand hΓ) (by kernel_rfl) ⟨(fun hg => hg), gF, (fun hg => hg), gF, trivial⟩ ?_
      refine awp_block ?_
      refine rgs [] [] (⟨[(0, (.str a_s)), (4, (.int .i64 i1)), (5, (.int .i64 (n2 : Int))), (7, (.bool (Q1 a_s n2))), (8, (.bool (Q2 a_s n2))), (10, (.optr 10)), (27, (.bool (bif (Q3 i1) then (bif (Q1 a_s n2) then true else (Q2 a_s n2)) else false)))], (Q4 a_s n2)⟩ : St) [(((Q3 i1) == true) = true → ((Q3 i1) == true) = true), (((Q3 i1) == true) = true → ((Q3 i1) == true) = true), (((Q3 i1) == true) = true → ((Q1 a_s n2) = false → (((Q3 i1) == true) && ((Q1 a_s n2) == false)) = true)), ((Q3 i1) = true → ((Q3 i1) == true) = true)] hn mix (no_hand hΓ) (by kernel_rfl) ⟨(fun hg => hg), (fun hg => hg), (fun hg => (aF hg)), gT, trivial⟩ ?_
      refine awp_cond (bif (Q3 i1) then (bif (Q1 a_s n2) then true else (Q2 a_s n2)) else false) (by kernel_rfl) (fun hb => ?_) (fun hb => ?_)
      · replace h := cond_t hb h
        clear hb
        obtain ⟨hc6, h⟩ := chk_some h
        obtain ⟨hc7, h⟩ := chk_some h
        refine rgs [] [] (⟨[(2, (.str ((a_s.drop (i1).toNat).take (((n2 : Int)).toNat - (i1).toNat)))), (3, (.str (a_s.drop ((n2 : Int)).toNat)))], []⟩ : St) [(0 ≤ i1 ∧ i1 ≤ (n2 : Int) ∧ (n2 : Int) ≤ (a_s.length : Int)), (0 ≤ (n2 : Int) ∧ (n2 : Int) ≤ (a_s.length : Int))] hn mix (no_hand hΓ) (by kernel_rfl) ⟨hc6, hc7, trivial⟩ ?_
        refine awp_ret ?_
        refine block_ret ?_
        refine block_ret ?_
        obtain rfl := Option.some.inj h
        exact ⟨(by intro hh; cases hh), rfl, ⟨.inl rfl, [], by kernel_rfl⟩⟩
      · replace h := cond_f hb h
        clear hb
        refine rgs0 (⟨[(0, (.str a_s)), (4, (.int .i64 i1)), (5, (.int .i64 (n2 : Int))), (7, (.bool (Q1 a_s n2))), (10, (.optr 10)), (43, (.bool (Q2 a_s n2)))], (Q4 a_s n2)⟩ : St) hn mix (no_hand hΓ) (by kernel_rfl) ?_
        refine awp_cond (Q2 a_s n2) (by kernel_rfl) (fun hb => ?_) (fun hb => ?_)
        · replace h := cond_t hb h
          clear hb
          obtain ⟨hc8, h⟩ := chk_some h
          obtain ⟨hc9, h⟩ := chk_some h
          refine rgs [] [] (⟨[(2, (.str ((a_s.drop ((n2 : Int)).toNat).take (((Q6 n2)).toNat - ((n2 : Int)).toNat)))), (3, (.str (a_s.drop ((Q6 n2)).toNat)))], []⟩ : St) [(0 ≤ (n2 : Int) ∧ (n2 : Int) ≤ (Q6 n2) ∧ (Q6 n2) ≤ (a_s.length : Int)), (0 ≤ (Q6 n2) ∧ (Q6 n2) ≤ (a_s.length : Int))] hn mix (no_hand hΓ) (by kernel_rfl) ⟨hc8, hc9, trivial⟩ ?_
          refine awp_ret ?_
          refine block_ret ?_
          refine block_ret ?_
          obtain rfl := Option.some.inj h
          exact ⟨(by intro hh; cases hh), rfl, ⟨.inl rfl, [], by kernel_rfl⟩⟩
        · replace h := cond_f hb h
          clear hb
          refine rgs [] [] (⟨[(0, (.str a_s)), (4, (.int .i64 i1)), (5, (.int .i64 (n2 : Int))), (10, (.optr 10)), (54, (.bool (bif (Q5 i1) then (!(Q1 a_s n2)) else false)))], (Q4 a_s n2)⟩ : St) [(((Q5 i1) == true) = true → ((Q5 i1) == true) = true), ((Q5 i1) = true → ((Q5 i1) == true) = true)] hn mix (no_hand hΓ) (by kernel_rfl) ⟨(fun hg => hg), gT, trivial⟩ ?_
          refine awp_cond (bif (Q5 i1) then (!(Q1 a_s n2)) else false) (by kernel_rfl) (fun hb => ?_) (fun hb => ?_)
          · replace h := cond_t hb h
            clear hb
            refine rg0 (⟨[(0, (.str a_s)), (4, (.int .i64 (n2 : Int))), (10, (.optr 10))], (Q4 a_s n2)⟩ : St) hn mix (no_hand hΓ) (by kernel_rfl) ?_
            refine block_normal ?_
            refine block_normal ?_
            obtain rfl := Option.some.inj h
            exact ⟨rfl, Le.refl _ _⟩
          · replace h := cond_f hb h
            clear hb
            refine awp_skip ?_
            refine block_normal ?_
            refine block_normal ?_
            obtain rfl := Option.some.inj h
            exact ⟨rfl, le_restrict_eq [0, 4, 10] [10] (by kernel_rfl) (no_hand hΓ)⟩
    · replace h := cond_f hb h
      clear hb
      refine awp_exit ?_
      refine then_exit ?_
      obtain rfl := Option.some.inj h
      exact ⟨(by intro hh; cases hh), rfl, le_restrict_eq [0, 4] [] (by kernel_rfl) (no_hand hΓ)⟩
  · clear hx10
    rcases x10 with i3 | r13
    · rintro e st' ⟨rfl, hl11⟩
      refine block_here ?_
      refine then_normal ?_
      refine awp_le hl11 ?_
      refine awp_seq ?_
      refine rgs0 (⟨[(0, (.str a_s)), (4, (.int .i64 i3)), (63, (.bool (decide ((i3 : Int) < (0 : Int)))))], []⟩ : St) hn mix (no_hand hΓ) (by kernel_rfl) ?_
      refine awp_cond (decide ((i3 : Int) < (0 : Int))) (by kernel_rfl) (fun hb => ?_) (fun hb => ?_)
      · replace h := cond_t hb h
        clear hb
        refine rgs0 (⟨[(2, (.str ([] : List Int))), (3, (.str ([] : List Int)))], []⟩ : St) hn mix (no_hand hΓ) (by kernel_rfl) ?_
        refine awp_ret ?_
        refine then_ret ?_
        obtain rfl := Option.some.inj h
        exact ⟨.inl rfl, [], by kernel_rfl⟩
      · replace h := cond_f hb h
        clear hb
        refine awp_skip ?_
        refine then_normal ?_
        obtain ⟨hc12, h⟩ := chk_some h
        refine rgs [] [] (⟨[(2, (.str (a_s.drop (i3).toNat))), (3, (.str ([] : List Int)))], []⟩ : St) [(0 ≤ i3 ∧ i3 ≤ (a_s.length : Int))] hn mix (no_hand hΓ) (by kernel_rfl) ⟨hc12, trivial⟩ ?_
        refine awp_ret ?_
        obtain rfl := Option.some.inj h
        exact ⟨.inl rfl, [], by kernel_rfl⟩
    · rintro e st' ⟨rfl, hk⟩
      refine block_ret ?_
      refine then_ret ?_
      obtain rfl := Option.some.inj h
      exact hk

noncomputable def m_text_reader_step (a_w0 : Treader) : Option Treader :=
  ((m_text_cutWord a_w0.rest).bind fun x1 => (some (⟨x1.1, x1.2, a_w0.wrong⟩ : Treader)))
theorem ok_text_reader_step (a_w0 : Treader) (r : Treader) (h : m_text_reader_step a_w0 = some r) : Spec Tryz.prog 40 [(.ptr 30000 0)] [(30000, .row 69 [(.str a_w0.word), (.str a_w0.rest), (.bool a_w0.wrong)])] (.tuple []) [(30000, .row 69 [(.str r.word), (.str r.rest), (.bool r.wrong)])] := by
  refine spec_of_awp (fn := Tryz.f40) Tryz.func40 rfl rfl (by kernel_rfl) (fun Γ hn hΓ => ?_)
  have hn : Γ.n = 16 := hn
  unfold m_text_reader_step at h
  obtain ⟨x1, hx1, h⟩ := bind_some h
  refine rg [⟨[], [], (.tuple [(.str x1.1), (.str x1.2)]), []⟩] [] (⟨[], [(30000, .row 69 [(.str x1.1), (.str x1.2), (.bool a_w0.wrong)])]⟩ : St) [(Spec Tryz.prog 66 [(.str a_w0.rest)] [] (.tuple [(.str x1.1), (.str x1.2)]) [])] hn mix (hand_in hΓ rfl) (by kernel_rfl) ⟨(ok_text_cutWord a_w0.rest x1 hx1), trivial⟩ ?_
  obtain rfl := Option.some.inj h
  exact ⟨.inr rfl, [(30000, 30000)], by kernel_rfl⟩

noncomputable def Q7 (x1 : Treader) : List AV := [(.str x1.word), (.str x1.rest), (.bool x1.wrong)]
noncomputable def m_text_startReader (a_s : List Int) : Option Treader :=
  ((m_text_reader_step (⟨([] : List Int), a_s, false⟩ : Treader)).bind fun x1 => (some x1))
theorem ok_text_startReader (a_s : List Int) (r : Treader) (h : m_text_startReader a_s = some r) : Spec Tryz.prog 24 [(.str a_s)] [] (.ptr 20000 0) [(20000, .row 69 [(.str r.word), (.str r.rest), (.bool r.wrong)])] := by
  refine spec_of_awp (fn := Tryz.f24) Tryz.func24 rfl rfl (by kernel_rfl) (fun Γ hn hΓ => ?_)
  have hn : Γ.n = 10 := hn
  unfold m_text_startReader at h
  refine rgs0 (⟨[(0, (.str a_s))], []⟩ : St) hn mix (no_hand hΓ) (by kernel_rfl) ?_
  refine rgs0 (⟨[(3, (.ptr 6 0))], [(6, .row 69 [(.str ([] : List Int)), (.str a_s), (.bool false)])]⟩ : St) hn mix (no_hand hΓ) (by kernel_rfl) ?_
  obtain ⟨x1, hx1, h⟩ := bind_some h
  refine rgs [⟨[(6, 30000)], [], (.tuple []), [(30000, .row 69 (Q7 x1))]⟩] [] (⟨[(3, (.ptr 6 0))], [(6, .row 69 (Q7 x1))]⟩ : St) [(Spec Tryz.prog 40 [(.ptr 30000 0)] [(30000, .row 69 [(.str ([] : List Int)), (.str a_s), (.bool false)])] (.tuple []) [(30000, .row 69 (Q7 x1))])] hn mix (no_hand hΓ) (by kernel_rfl) ⟨(ok_text_reader_step (⟨([] : List Int), a_s, false⟩ : Treader) x1 hx1), trivial⟩ ?_
  refine rgs0 (⟨[(2, (.ptr 6 0))], [(6, .row 69 (Q7 x1))]⟩ : St) hn mix (no_hand hΓ) (by kernel_rfl) ?_
  refine awp_ret ?_
  obtain rfl := Option.some.inj h
  exact ⟨.inl rfl, [(6, 20000)], by kernel_rfl⟩

noncomputable def m_text_reader_fail (a_w0 : Treader) : Option Treader :=
  (some (⟨([] : List Int), ([] : List Int), true⟩ : Treader))
theorem ok_text_reader_fail (a_w0 : Treader) (r : Treader) (h : m_text_reader_fail a_w0 = some r) : Spec Tryz.prog 67 [(.ptr 30000 0)] [(30000, .row 69 [(.str a_w0.word), (.str a_w0.rest), (.bool a_w0.wrong)])] (.tuple []) [(30000, .row 69 [(.str r.word), (.str r.rest), (.bool r.wrong)])] := by
  refine spec_of_awp (fn := Tryz.f67) Tryz.func67 rfl rfl (by kernel_rfl) (fun Γ hn hΓ => ?_)
  have hn : Γ.n = 5 := hn
  unfold m_text_reader_fail at h
  refine rg0 (⟨[], [(30000, .row 69 [(.str ([] : List Int)), (.str ([] : List Int)), (.bool true)])]⟩ : St) hn mix (hand_in hΓ rfl) (by kernel_rfl) ?_
  obtain rfl := Option.some.inj h
  exact ⟨.inr rfl, [(30000, 30000)], by kernel_rfl⟩

noncomputable def Q9 (x1 : Treader) : List (Nat × Own) := [(30000, .row 69 [(.str x1.word), (.str x1.rest), (.bool x1.wrong)])]
noncomputable def Q10 (x2 : Treader) : List (Nat × Own) := [(30000, .row 69 [(.str x2.word), (.str x2.rest), (.bool x2.wrong)])]
noncomputable def Q8 (a_w0 : Treader) : List (Nat × Own) := [(30000, .row 69 [(.str a_w0.word), (.str a_w0.rest), (.bool a_w0.wrong)])]
noncomputable def m_text_reader_take (a_word : List Int) (a_w0 : Treader) : Option Treader :=
  (bif (!((a_w0.word : List Int) == a_word)) then ((m_text_reader_fail a_w0).bind fun x1 => (some x1)) else ((m_text_reader_step a_w0).bind fun x2 => (some x2)))
theorem ok_text_reader_take (a_word : List Int) (a_w0 : Treader) (r : Treader) (h : m_text_reader_take a_word a_w0 = some r) : Spec Tryz.prog 41 [(.ptr 30000 0), (.str a_word)] [(30000, .row 69 [(.str a_w0.word), (.str a_w0.rest), (.bool a_w0.wrong)])] (.tuple []) [(30000, .row 69 [(.str r.word), (.str r.rest), (.bool r.wrong)])] := by
  refine spec_of_awp (fn := Tryz.f41) Tryz.func41 rfl rfl (by kernel_rfl) (fun Γ hn hΓ => ?_)
  have hn : Γ.n = 14 := hn
  unfold m_text_reader_take at h
  refine awp_seq ?_
  refine rgs0 (⟨[(0, (.ptr 30000 0)), (9, (.bool (!((a_w0.word : List Int) == a_word))))], (Q8 a_w0)⟩ : St) hn mix (hand_in hΓ rfl) (by kernel_rfl) ?_
  refine awp_cond (!((a_w0.word : List Int) == a_word)) (by kernel_rfl) (fun hb => ?_) (fun hb => ?_)
  · replace h := cond_t hb h
    clear hb
    obtain ⟨x1, hx1, h⟩ := bind_some h
    refine rgs [⟨[(30000, 30000)], [], (.tuple []), (Q9 x1)⟩] [] (⟨[], (Q9 x1)⟩ : St) [(Spec Tryz.prog 67 [(.ptr 30000 0)] (Q8 a_w0) (.tuple []) (Q9 x1))] hn mix (hand_in hΓ rfl) (by kernel_rfl) ⟨(ok_text_reader_fail a_w0 x1 hx1), trivial⟩ ?_
    refine awp_ret ?_
    refine then_ret ?_
    obtain rfl := Option.some.inj h
    exact ⟨.inl rfl, [(30000, 30000)], by kernel_rfl⟩
  · replace h := cond_f hb h
    clear hb
    refine awp_skip ?_
    refine then_normal ?_
    obtain ⟨x2, hx2, h⟩ := bind_some h
    refine rg [⟨[(30000, 30000)], [], (.tuple []), (Q10 x2)⟩] [] (⟨[], (Q10 x2)⟩ : St) [(Spec Tryz.prog 40 [(.ptr 30000 0)] (Q8 a_w0) (.tuple []) (Q10 x2))] hn mix (hand_in hΓ rfl) (by kernel_rfl) ⟨(ok_text_reader_step a_w0 x2 hx2), trivial⟩ ?_
    obtain rfl := Option.some.inj h
    exact ⟨.inr rfl, [(30000, 30000)], by kernel_rfl⟩

noncomputable def Q13 (x3 : Treader) : List (Nat × Own) := [(30000, .row 69 [(.str x3.word), (.str x3.rest), (.bool x3.wrong)])]
noncomputable def Q14 (x4 : Treader) : List (Nat × Own) := [(30000, .row 69 [(.str x4.word), (.str x4.rest), (.bool x4.wrong)])]
noncomputable def Q12 (a_w0 : Treader) : List (Nat × Own) := [(30000, .row 69 [(.str a_w0.word), (.str a_w0.rest), (.bool a_w0.wrong)])]
noncomputable def Q11 (x1 : (Int × Bool)) (a_w0 : Treader) := ((x1.2 == false) && ((decide (((1 : Int) : Int) < (a_w0.word.length : Int))) == true))
noncomputable def Q15 (x1 : (Int × Bool)) (a_w0 : Treader) := (bif x1.2 then true else (bif (decide (((1 : Int) : Int) < (a_w0.word.length : Int))) then (((a_w0.word.getD ((0 : Int)).toNat 0) : Int) == (48 : Int)) else false))
noncomputable def m_text_reader_whole (a_bits : Int) (a_w0 : Treader) : Option (Int × Treader) :=
  ((x_ParseUint a_w0.word (10 : Int) a_bits).bind fun x1 => (chk (((x1.2 == false) && ((decide (((1 : Int) : Int) < (a_w0.word.length : Int))) == true)) = true → (InB (0 : Int) a_w0.word.length)) (bif (bif x1.2 then true else (bif (decide (((1 : Int) : Int) < (a_w0.word.length : Int))) then (((a_w0.word.getD ((0 : Int)).toNat 0) : Int) == (48 : Int)) else false)) then ((m_text_reader_fail a_w0).bind fun x3 => (some ((0 : Int), x3))) else ((m_text_reader_step a_w0).bind fun x4 => (some (x1.1, x4))))))
theorem ok_text_reader_whole (a_bits : Int) (a_w0 : Treader) (r : (Int × Treader)) (h : m_text_reader_whole a_bits a_w0 = some r) : Spec Tryz.prog 68 [(.ptr 30000 0), (.int .i64 a_bits)] [(30000, .row 69 [(.str a_w0.word), (.str a_w0.rest), (.bool a_w0.wrong)])] (.int .u64 r.1) [(30000, .row 69 [(.str r.2.word), (.str r.2.rest), (.bool r.2.wrong)])] := by
  refine spec_of_awp (fn := Tryz.f68) Tryz.func68 rfl rfl (by kernel_rfl) (fun Γ hn hΓ => ?_)
  have hn : Γ.n = 39 := hn
  unfold m_text_reader_whole at h
  refine rgs0 (⟨[(0, (.ptr 30000 0)), (1, (.int .i64 a_bits))], (Q12 a_w0)⟩ : St) hn mix (hand_in hΓ rfl) (by kernel_rfl) ?_
  obtain ⟨x1, hx1, h⟩ := bind_some h
  refine rgs [⟨[], [], (.tuple [(.int .u64 x1.1), (.err x1.2)]), []⟩] [] (⟨[(0, (.ptr 30000 0)), (5, (.int .u64 x1.1)), (6, (.err x1.2))], (Q12 a_w0)⟩ : St) [(Spec Tryz.prog 87 [(.str a_w0.word), (.int .i64 (10 : Int)), (.int .i64 a_bits)] [] (.tuple [(.int .u64 x1.1), (.err x1.2)]) [])] hn mix (hand_in hΓ rfl) (by kernel_rfl) ⟨(xok_ParseUint a_w0.word (10 : Int) a_bits x1 hx1), trivial⟩ ?_
  refine awp_seq ?_
  obtain ⟨hc2, h⟩ := chk_some h
  refine rgs [] [] (⟨[(0, (.ptr 30000 0)), (5, (.int .u64 x1.1)), (33, (.bool (Q15 x1 a_w0)))], (Q12 a_w0)⟩ : St) [((x1.2 == false) = true → (x1.2 == false) = true), ((x1.2 == false) = true → (x1.2 == false) = true), ((x1.2 == false) = true → (x1.2 == false) = true), ((x1.2 == false) = true → (x1.2 == false) = true), ((x1.2 == false) = true → (x1.2 == false) = true), ((x1.2 == false) = true → (x1.2 == false) = true), ((Q11 x1 a_w0) = true → (Q11 x1 a_w0) = true), ((Q11 x1 a_w0) = true → (Q11 x1 a_w0) = true), ((Q11 x1 a_w0) = true → (Q11 x1 a_w0) = true), ((Q11 x1 a_w0) = true → (Q11 x1 a_w0) = true), ((Q11 x1 a_w0) = true → (InB (0 : Int) a_w0.word.length)), ((Q11 x1 a_w0) = true → (Q11 x1 a_w0) = true), ((x1.2 == false) = true → (x1.2 == false) = true), ((x1.2 == false) = true → ((decide (((1 : Int) : Int) < (a_w0.word.length : Int))) = true → (Q11 x1 a_w0) = true)), (x1.2 = false → (x1.2 == false) = true)] hn mix (hand_in hΓ rfl) (by kernel_rfl) ⟨(fun hg => hg), (fun hg => hg), (fun hg => hg), (fun hg => hg), (fun hg => hg), (fun hg => hg), (fun hg => hg), (fun hg => hg), (fun hg => hg), (fun hg => hg), (fun hg => (hc2 hg)), (fun hg => hg), (fun hg => hg), (fun hg => (aT hg)), gF, trivial⟩ ?_
  refine awp_cond (Q15 x1 a_w0) (by kernel_rfl) (fun hb => ?_) (fun hb => ?_)
  · replace h := cond_t hb h
    clear hb
    obtain ⟨x3, hx3, h⟩ := bind_some h
    refine rgs [⟨[(30000, 30000)], [], (.tuple []), (Q13 x3)⟩] [] (⟨[], (Q13 x3)⟩ : St) [(Spec Tryz.prog 67 [(.ptr 30000 0)] (Q12 a_w0) (.tuple []) (Q13 x3))] hn mix (hand_in hΓ rfl) (by kernel_rfl) ⟨(ok_text_reader_fail a_w0 x3 hx3), trivial⟩ ?_
    refine rgs0 (⟨[(4, (.int .u64 (0 : Int)))], (Q13 x3)⟩ : St) hn mix (hand_in hΓ rfl) (by kernel_rfl) ?_
    refine awp_ret ?_
    refine then_ret ?_
    obtain rfl := Option.some.inj h
    exact ⟨.inl rfl, [(30000, 30000)], by kernel_rfl⟩
  · replace h := cond_f hb h
    clear hb
    refine awp_skip ?_
    refine then_normal ?_
    obtain ⟨x4, hx4, h⟩ := bind_some h
    refine rgs [⟨[(30000, 30000)], [], (.tuple []), (Q14 x4)⟩] [] (⟨[(5, (.int .u64 x1.1))], (Q14 x4)⟩ : St) [(Spec Tryz.prog 40 [(.ptr 30000 0)] (Q12 a_w0) (.tuple []) (Q14 x4))] hn mix (hand_in hΓ rfl) (by kernel_rfl) ⟨(ok_text_reader_step a_w0 x4 hx4), trivial⟩ ?_
    refine rgs0 (⟨[(4, (.int .u64 x1.1))], (Q14 x4)⟩ : St) hn mix (hand_in hΓ rfl) (by kernel_rfl) ?_
    refine awp_ret ?_
    obtain rfl := Option.some.inj h
    exact ⟨.inl rfl, [(30000, 30000)], by kernel_rfl⟩

noncomputable def Q16 (x1 : (Int × Treader)) : List (Nat × Own) := [(30000, .row 69 [(.str x1.2.word), (.str x1.2.rest), (.bool x1.2.wrong)])]
noncomputable def m_text_reader_number (a_w0 : Treader) : Option (Int × Treader) :=
  ((m_text_reader_whole (31 : Int) a_w0).bind fun x1 => (some ((w64 x1.1), x1.2)))
theorem ok_text_reader_number (a_w0 : Treader) (r : (Int × Treader)) (h : m_text_reader_number a_w0 = some r) : Spec Tryz.prog 43 [(.ptr 30000 0)] [(30000, .row 69 [(.str a_w0.word), (.str a_w0.rest), (.bool a_w0.wrong)])] (.int .i64 r.1) [(30000, .row 69 [(.str r.2.word), (.str r.2.rest), (.bool r.2.wrong)])] := by
  refine spec_of_awp (fn := Tryz.f43) Tryz.func43 rfl rfl (by kernel_rfl) (fun Γ hn hΓ => ?_)
  have hn : Γ.n = 6 := hn
  unfold m_text_reader_number at h
  refine rgs0 (⟨[(0, (.ptr 30000 0))], [(30000, .row 69 [(.str a_w0.word), (.str a_w0.rest), (.bool a_w0.wrong)])]⟩ : St) hn mix (hand_in hΓ rfl) (by kernel_rfl) ?_
  obtain ⟨x1, hx1, h⟩ := bind_some h
  refine rgs [⟨[(30000, 30000)], [], (.int .u64 x1.1), (Q16 x1)⟩] [] (⟨[(2, (.int .i64 (w64 x1.1)))], (Q16 x1)⟩ : St) [(Spec Tryz.prog 68 [(.ptr 30000 0), (.int .i64 (31 : Int))] [(30000, .row 69 [(.str a_w0.word), (.str a_w0.rest), (.bool a_w0.wrong)])] (.int .u64 x1.1) (Q16 x1))] hn mix (hand_in hΓ rfl) (by kernel_rfl) ⟨(ok_text_reader_whole (31 : Int) a_w0 x1 hx1), trivial⟩ ?_
  refine awp_ret ?_
  obtain rfl := Option.some.inj h
  exact ⟨.inl rfl, [(30000, 30000)], by kernel_rfl⟩

noncomputable def m_text_reader_list_L1  : (List (Int) × List Int × List Int × Bool) → Option (LR (List (Int) × List Int × List Int × Bool) (List (Int) × List Int × List Int × Bool)) :=
  fun ((l2, u3, u4, b5) : (List (Int) × List Int × List Int × Bool)) => (bif (bif (bif (!((u3 : List Int) == ([41] : List Int))) then (!((u3 : List Int) == ([] : List Int))) else false) then (decide (((l2.length : Int) : Int) < (64 : Int))) else false) then ((m_text_reader_number (⟨u3, u4, b5⟩ : Treader)).bind fun x10 => (chk (l2.length + ([x10.1] : List (Int)).length ≤ room) (some (.next ((l2 ++ ([x10.1] : List (Int))), x10.2.word, x10.2.rest, x10.2.wrong))))) else (some (.done (l2, u3, u4, b5))))
noncomputable def Q21 (x10 : (Int × Treader)) := ([x10.1] : List (Int))
noncomputable def Q19 : AV := (AV.list 1 eI64 (0 : Int) ([] : List Int) .exact)
noncomputable def Q18 (u3 : List Int) := ((!((u3 : List Int) == ([41] : List Int))) == true)
noncomputable def Q22 (x14 : Treader) : List AV := [(.str x14.word), (.str x14.rest), (.bool x14.wrong)]
noncomputable def Q20 (x1 : Treader) : List (Nat × Own) := [(30000, .row 69 [(.str x1.word), (.str x1.rest), (.bool x1.wrong)])]
noncomputable def Q23 (a_w0 : Treader) : List (Nat × Own) := [(30000, .row 69 [(.str a_w0.word), (.str a_w0.rest), (.bool a_w0.wrong)])]
noncomputable def Q17 (u3 : List Int) := (bif (!((u3 : List Int) == ([41] : List Int))) then (!((u3 : List Int) == ([] : List Int))) else false)
noncomputable def m_text_reader_list (a_w0 : Treader) : Option (List (Int) × Treader) :=
  ((m_text_reader_take ([40] : List Int) a_w0).bind fun x1 => ((loopO (S := (List (Int) × List Int × List Int × Bool)) (X := (List (Int) × List Int × List Int × Bool)) m_text_reader_list_L1 (([] : List Int), x1.word, x1.rest, x1.wrong)).bind (fun x12 => (match x12 with | (l6, u7, u8, b9) => ((m_text_reader_take ([41] : List Int) (⟨u7, u8, b9⟩ : Treader)).bind fun x14 => (some (l6, x14)))))))
theorem ok_text_reader_list (a_w0 : Treader) (r : (List (Int) × Treader)) (h : m_text_reader_list a_w0 = some r) : Spec Tryz.prog 42 [(.ptr 30000 0)] [(30000, .row 69 [(.str a_w0.word), (.str a_w0.rest), (.bool a_w0.wrong)])] (AV.list 1 eI64 (0 : Int) r.1 (.own 20000)) [(30000, .row 69 [(.str r.2.word), (.str r.2.rest), (.bool r.2.wrong)]), (20000, .tok 1 3 r.1.length)] := by
  refine spec_of_awp (fn := Tryz.f42) Tryz.func42 rfl rfl (by kernel_rfl) (fun Γ hn hΓ => ?_)
  have hn : Γ.n = 31 := hn
  unfold m_text_reader_list at h
  refine rgs [] [(2, Q19)] (⟨[(0, (.ptr 30000 0))], (Q23 a_w0)⟩ : St) [(AVle (.slice 0 0 (fun _ => []) .exact) Q19)] hn mix (hand_in hΓ rfl) (by kernel_rfl) ⟨av_nil, trivial⟩ ?_
  refine rgs [] [(3, Q19)] (⟨[(0, (.ptr 30000 0)), (3, Q19)], (Q23 a_w0)⟩ : St) [(AVle (.slice 0 0 (fun _ => []) .exact) Q19)] hn mix (hand_in hΓ rfl) (by kernel_rfl) ⟨av_nil, trivial⟩ ?_
  obtain ⟨x1, hx1, h⟩ := bind_some h
  refine rgs [⟨[(30000, 30000)], [], (.tuple []), (Q20 x1)⟩] [] (⟨[(0, (.ptr 30000 0)), (3, Q19)], (Q20 x1)⟩ : St) [(Spec Tryz.prog 41 [(.ptr 30000 0), (.str ([40] : List Int))] (Q23 a_w0) (.tuple []) (Q20 x1))] hn mix (hand_in hΓ rfl) (by kernel_rfl) ⟨(ok_text_reader_take ([40] : List Int) a_w0 x1 hx1), trivial⟩ ?_
  refine awp_seq ?_
  refine awp_block ?_
  refine awp_le (st' := (fun ((l2, u3, u4, b5) : (List (Int) × List Int × List Int × Bool)) => (⟨[(0, (.ptr 30000 0)), (3, (AV.list 1 eI64 (0 : Int) l2 (.own 5003)))], [(5003, .tok 1 3 l2.length), (30000, .row 69 [(.str u3), (.str u4), (.bool b5)])]⟩ : St)) (([] : List Int), x1.word, x1.rest, x1.wrong)) (Le.trans (le_restrict_eq (st' := (⟨[(0, (.ptr 30000 0)), (3, Q19)], (Q20 x1)⟩ : St)) [0, 3] [30000] (by kernel_rfl) (hand_in hΓ rfl)) (Le.trans (le_tag (t := 3) (nm := 5003) (sz' := 1) (fun i => eI64 (([] : List Int).getD i (0 : Int))) 3 rfl rfl (.inl ⟨rfl, rfl⟩) (fun h_ => absurd h_ (by decide))) (le_restrict_eq (st' := (⟨[(0, (.ptr 30000 0)), (3, (AV.list 1 eI64 (0 : Int) ([] : List Int) (.own 5003)))], [(5003, .tok 1 3 (([] : List Int).length)), (30000, .row 69 [(.str x1.word), (.str x1.rest), (.bool x1.wrong)])]⟩ : St)) [0, 3] [5003, 30000] (by kernel_rfl) (hand_in hΓ rfl)))) ?_
  obtain ⟨x12, hx12, h⟩ := bind_some h
  refine awp_loop (fun ((l2, u3, u4, b5) : (List (Int) × List Int × List Int × Bool)) => (⟨[(0, (.ptr 30000 0)), (3, (AV.list 1 eI64 (0 : Int) l2 (.own 5003)))], [(5003, .tok 1 3 l2.length), (30000, .row 69 [(.str u3), (.str u4), (.bool b5)])]⟩ : St)) _ (fun ((l6, u7, u8, b9) : (List (Int) × List Int × List Int × Bool)) (e : Exit) (st : St) => e = (.exit 0) ∧ Le Γ st (⟨[(0, (.ptr 30000 0)), (3, (AV.list 1 eI64 (0 : Int) l6 (.own 5003)))], [(5003, .tok 1 3 l6.length), (30000, .row 69 [(.str u7), (.str u8), (.bool b9)])]⟩ : St)) ?_ hx12 ?_
  · rintro ⟨l2, u3, u4, b5⟩ y h
    unfold m_text_reader_list_L1 at h
    refine awp_seq ?_
    refine rgs [] [] (⟨[(0, (.ptr 30000 0)), (3, (AV.list 1 eI64 (0 : Int) l2 (.own 5003))), (22, (.bool (bif (Q17 u3) then (decide (((l2.length : Int) : Int) < (64 : Int))) else false)))], [(5003, .tok 1 3 l2.length), (30000, .row 69 [(.str u3), (.str u4), (.bool b5)])]⟩ : St) [((Q18 u3) = true → (Q18 u3) = true), ((Q18 u3) = true → (Q18 u3) = true), ((Q18 u3) = true → (Q18 u3) = true), ((Q18 u3) = true → (Q18 u3) = true), ((!((u3 : List Int) == ([41] : List Int))) = true → (Q18 u3) = true), (((Q17 u3) == true) = true → ((Q17 u3) == true) = true), (((Q17 u3) == true) = true → ((Q17 u3) == true) = true), ((Q17 u3) = true → ((Q17 u3) == true) = true)] hn mix (hand_in hΓ rfl) (by kernel_rfl) ⟨(fun hg => hg), (fun hg => hg), (fun hg => hg), (fun hg => hg), gT, (fun hg => hg), (fun hg => hg), gT, trivial⟩ ?_
    refine awp_cond (bif (Q17 u3) then (decide (((l2.length : Int) : Int) < (64 : Int))) else false) (by kernel_rfl) (fun hb => ?_) (fun hb => ?_)
    · replace h := cond_t hb h
      clear hb
      refine awp_skip ?_
      refine then_normal ?_
      refine awp_block ?_
      obtain ⟨x10, hx10, h⟩ := bind_some h
      obtain ⟨hc11, h⟩ := chk_some h
      refine rg [⟨[(30000, 30000)], [], (.int .i64 x10.1), [(30000, .row 69 [(.str x10.2.word), (.str x10.2.rest), (.bool x10.2.wrong)])]⟩] [(26, (AV.list 1 eI64 (0 : Int) (Q21 x10) .exact)), (27, (AV.list 1 eI64 (0 : Int) (l2 ++ (Q21 x10)) (.own 5003)))] (⟨[(0, (.ptr 30000 0)), (3, (AV.list 1 eI64 (0 : Int) (l2 ++ (Q21 x10)) (.own 5003)))], [(5003, .tok 1 3 ((l2 ++ (Q21 x10)).length)), (30000, .row 69 [(.str x10.2.word), (.str x10.2.rest), (.bool x10.2.wrong)])]⟩ : St) [(Spec Tryz.prog 43 [(.ptr 30000 0)] [(30000, .row 69 [(.str u3), (.str u4), (.bool b5)])] (.int .i64 x10.1) [(30000, .row 69 [(.str x10.2.word), (.str x10.2.rest), (.bool x10.2.wrong)])]), (AVle (.slice 1 1 (fun i => ([[(.int .i64 x10.1)]] : List (List AV)).getD i []) .exact) (AV.list 1 eI64 (0 : Int) (Q21 x10) .exact)), (l2.length = l2.length), (l2.length + (Q21 x10).length ≤ room), (AVle (.slice 1 (l2.length + (Q21 x10).length) (appF l2.length (fun i => eI64 (l2.getD i (0 : Int))) (fun i => eI64 ((Q21 x10).getD i (0 : Int)))) (.own 5003)) (AV.list 1 eI64 (0 : Int) (l2 ++ (Q21 x10)) (.own 5003))), (l2.length + (Q21 x10).length = (l2 ++ (Q21 x10)).length)] hn mix (hand_in hΓ rfl) (by kernel_rfl) ⟨(ok_text_reader_number (⟨u3, u4, b5⟩ : Treader) x10 hx10), (av_lit rfl (fun i hi => map_get (e := eI64) (d := (0 : Int)) (Q21 x10) i hi)), rfl, hc11, av_app, (len_app _ _), trivial⟩ ?_
      refine block_normal ?_
      obtain rfl := Option.some.inj h
      exact ⟨rfl, Le.refl _ _⟩
    · replace h := cond_f hb h
      clear hb
      refine awp_exit ?_
      refine then_exit ?_
      obtain rfl := Option.some.inj h
      exact ⟨(by intro hh; cases hh), rfl, le_restrict_eq [0, 3] [5003, 30000] (by kernel_rfl) (hand_in hΓ rfl)⟩
  · clear hx12
    rcases x12 with ⟨l6, u7, u8, b9⟩
    rintro e st' ⟨rfl, hl13⟩
    refine block_here ?_
    refine then_normal ?_
    refine awp_le hl13 ?_
    obtain ⟨x14, hx14, h⟩ := bind_some h
    refine rgs [⟨[(30000, 30000)], [], (.tuple []), [(30000, .row 69 (Q22 x14))]⟩] [] (⟨[(3, (AV.list 1 eI64 (0 : Int) l6 (.own 5003)))], [(5003, .tok 1 3 l6.length), (30000, .row 69 (Q22 x14))]⟩ : St) [(Spec Tryz.prog 41 [(.ptr 30000 0), (.str ([41] : List Int))] [(30000, .row 69 [(.str u7), (.str u8), (.bool b9)])] (.tuple []) [(30000, .row 69 (Q22 x14))])] hn mix (hand_in hΓ rfl) (by kernel_rfl) ⟨(ok_text_reader_take ([41] : List Int) (⟨u7, u8, b9⟩ : Treader) x14 hx14), trivial⟩ ?_
    refine rgs0 (⟨[(2, (AV.list 1 eI64 (0 : Int) l6 (.own 5003)))], [(5003, .tok 1 3 l6.length), (30000, .row 69 (Q22 x14))]⟩ : St) hn mix (hand_in hΓ rfl) (by kernel_rfl) ?_
    refine awp_ret ?_
    obtain rfl := Option.some.inj h
    exact ⟨.inl rfl, [(30000, 30000), (5003, 20000)], by kernel_rfl⟩

noncomputable def Q30 (x1 : Treader) : List AV := [(.str x1.word), (.str x1.rest), (.bool x1.wrong)]
noncomputable def Q25 : List (Nat × AV) := [(0, (.ptr 30000 0)), (2, (.ptr 2 0)), (3, (.ptr 3 0))]
noncomputable def Q26 (x2 : (Int × Treader)) : List AV := [(.str x2.2.word), (.str x2.2.rest), (.bool x2.2.wrong)]
noncomputable def Q27 (x3 : (Int × Treader)) : List AV := [(.str x3.2.word), (.str x3.2.rest), (.bool x3.2.wrong)]
noncomputable def Q28 (x4 : (List (Int) × Treader)) : List AV := [(.str x4.2.word), (.str x4.2.rest), (.bool x4.2.wrong)]
noncomputable def Q29 (x5 : (List (Int) × Treader)) : List AV := [(.str x5.2.word), (.str x5.2.rest), (.bool x5.2.wrong)]
noncomputable def Q24 : List AV := [(.int .i64 (0 : Int)), (.int .i64 (0 : Int)), (.slice 0 0 (fun _ => []) .exact), (.slice 0 0 (fun _ => []) .exact)]
noncomputable def m_text_reader_phi (a_w0 : Treader) : Option (TPhi × Treader) :=
  ((m_text_reader_take ([112, 104, 105] : List Int) a_w0).bind fun x1 => ((m_text_reader_number x1).bind fun x2 => ((m_text_reader_number x2.2).bind fun x3 => ((m_text_reader_list x3.2).bind fun x4 => ((m_text_reader_list x4.2).bind fun x5 => (some ((⟨x2.1, x3.1, x4.1, x5.1⟩ : TPhi), x5.2)))))))
theorem ok_text_reader_phi (a_w0 : Treader) (r : (TPhi × Treader)) (h : m_text_reader_phi a_w0 = some r) : Spec Tryz.prog 69 [(.ptr 30000 0)] [(30000, .row 69 [(.str a_w0.word), (.str a_w0.rest), (.bool a_w0.wrong)])] (.agg (eTPhi r.1)) [(30000, .row 69 [(.str r.2.word), (.str r.2.rest), (.bool r.2.wrong)])] := by
  refine spec_of_awp (fn := Tryz.f69) Tryz.func69 rfl rfl (by kernel_rfl) (fun Γ hn hΓ => ?_)
  have hn : Γ.n = 19 := hn
  unfold m_text_reader_phi at h
  refine rgs0 (⟨[(0, (.ptr 30000 0)), (2, (.ptr 2 0))], [(2, .row 49 Q24), (30000, .row 69 [(.str a_w0.word), (.str a_w0.rest), (.bool a_w0.wrong)])]⟩ : St) hn mix (hand_in hΓ rfl) (by kernel_rfl) ?_
  refine rgs0 (⟨Q25, [(2, .row 49 Q24), (3, .row 49 Q24), (30000, .row 69 [(.str a_w0.word), (.str a_w0.rest), (.bool a_w0.wrong)])]⟩ : St) hn mix (hand_in hΓ rfl) (by kernel_rfl) ?_
  obtain ⟨x1, hx1, h⟩ := bind_some h
  refine rgs [⟨[(30000, 30000)], [], (.tuple []), [(30000, .row 69 (Q30 x1))]⟩] [] (⟨Q25, [(2, .row 49 Q24), (3, .row 49 Q24), (30000, .row 69 (Q30 x1))]⟩ : St) [(Spec Tryz.prog 41 [(.ptr 30000 0), (.str ([112, 104, 105] : List Int))] [(30000, .row 69 [(.str a_w0.word), (.str a_w0.rest), (.bool a_w0.wrong)])] (.tuple []) [(30000, .row 69 (Q30 x1))])] hn mix (hand_in hΓ rfl) (by kernel_rfl) ⟨(ok_text_reader_take ([112, 104, 105] : List Int) a_w0 x1 hx1), trivial⟩ ?_
  obtain ⟨x2, hx2, h⟩ := bind_some h
  refine rgs [⟨[(30000, 30000)], [], (.int .i64 x2.1), [(30000, .row 69 (Q26 x2))]⟩] [] (⟨Q25, [(2, .row 49 Q24), (3, .row 49 [(.int .i64 x2.1), (.int .i64 (0 : Int)), (.slice 0 0 (fun _ => []) .exact), (.slice 0 0 (fun _ => []) .exact)]), (30000, .row 69 (Q26 x2))]⟩ : St) [(Spec Tryz.prog 43 [(.ptr 30000 0)] [(30000, .row 69 (Q30 x1))] (.int .i64 x2.1) [(30000, .row 69 (Q26 x2))])] hn mix (hand_in hΓ rfl) (by kernel_rfl) ⟨(ok_text_reader_number x1 x2 hx2), trivial⟩ ?_
  obtain ⟨x3, hx3, h⟩ := bind_some h
  refine rgs [⟨[(30000, 30000)], [], (.int .i64 x3.1), [(30000, .row 69 (Q27 x3))]⟩] [] (⟨Q25, [(2, .row 49 Q24), (3, .row 49 [(.int .i64 x2.1), (.int .i64 x3.1), (.slice 0 0 (fun _ => []) .exact), (.slice 0 0 (fun _ => []) .exact)]), (30000, .row 69 (Q27 x3))]⟩ : St) [(Spec Tryz.prog 43 [(.ptr 30000 0)] [(30000, .row 69 (Q26 x2))] (.int .i64 x3.1) [(30000, .row 69 (Q27 x3))])] hn mix (hand_in hΓ rfl) (by kernel_rfl) ⟨(ok_text_reader_number x2.2 x3 hx3), trivial⟩ ?_
  obtain ⟨x4, hx4, h⟩ := bind_some h
  refine rgs [⟨[(30000, 30000)], [(20000, 13)], (AV.list 1 eI64 (0 : Int) x4.1 (.own 20000)), [(30000, .row 69 (Q28 x4)), (20000, .tok 1 3 x4.1.length)]⟩] [] (⟨Q25, [(2, .row 49 Q24), (3, .row 49 [(.int .i64 x2.1), (.int .i64 x3.1), (AV.list 1 eI64 (0 : Int) x4.1 (.own 13)), (.slice 0 0 (fun _ => []) .exact)]), (13, .tok 1 3 x4.1.length), (30000, .row 69 (Q28 x4))]⟩ : St) [(Spec Tryz.prog 42 [(.ptr 30000 0)] [(30000, .row 69 (Q27 x3))] (AV.list 1 eI64 (0 : Int) x4.1 (.own 20000)) [(30000, .row 69 (Q28 x4)), (20000, .tok 1 3 x4.1.length)])] hn mix (hand_in hΓ rfl) (by kernel_rfl) ⟨(ok_text_reader_list x3.2 x4 hx4), trivial⟩ ?_
  obtain ⟨x5, hx5, h⟩ := bind_some h
  refine rgs [⟨[(30000, 30000)], [(20000, 16)], (AV.list 1 eI64 (0 : Int) x5.1 (.own 20000)), [(30000, .row 69 (Q29 x5)), (20000, .tok 1 3 x5.1.length)]⟩] [] (⟨[(2, (.ptr 2 0)), (3, (.ptr 3 0))], [(2, .row 49 Q24), (3, .row 49 [(.int .i64 x2.1), (.int .i64 x3.1), (AV.list 1 eI64 (0 : Int) x4.1 (.own 13)), (AV.list 1 eI64 (0 : Int) x5.1 (.own 16))]), (13, .tok 1 3 x4.1.length), (16, .tok 1 3 x5.1.length), (30000, .row 69 (Q29 x5))]⟩ : St) [(Spec Tryz.prog 42 [(.ptr 30000 0)] [(30000, .row 69 (Q28 x4))] (AV.list 1 eI64 (0 : Int) x5.1 (.own 20000)) [(30000, .row 69 (Q29 x5)), (20000, .tok 1 3 x5.1.length)])] hn mix (hand_in hΓ rfl) (by kernel_rfl) ⟨(ok_text_reader_list x4.2 x5 hx5), trivial⟩ ?_
  refine rgs0 (⟨[(2, (.ptr 2 0))], [(2, .row 49 [(.int .i64 x2.1), (.int .i64 x3.1), (AV.list 1 eI64 (0 : Int) x4.1 (.own 13)), (AV.list 1 eI64 (0 : Int) x5.1 (.own 16))]), (13, .tok 1 3 x4.1.length), (16, .tok 1 3 x5.1.length), (30000, .row 69 (Q29 x5))]⟩ : St) hn mix (hand_in hΓ rfl) (by kernel_rfl) ?_
  refine awp_ret ?_
  obtain rfl := Option.some.inj h
  exact ⟨.inl rfl, [(30000, 30000)], by kernel_rfl⟩

noncomputable def m_text_Kind_L1 (a_name : List Int) : Int → Option (LR Int (Unit ⊕ (Int × Bool))) :=
  fun (i1 : Int) => (bif (decide ((i1 : Int) < (23 : Int))) then (chk (InB i1 23) (bif (((gl0.getD (i1).toNat []) : List Int) == a_name) then (some (.done (.inr (i1, true)))) else (some (.next (w64 (i1 + (1 : Int))))))) else (some (.done (.inl ()))))
noncomputable def m_text_Kind (a_name : List Int) : Option (Int × Bool) :=
  ((loopO (S := Int) (X := (Unit ⊕ (Int × Bool))) (m_text_Kind_L1 a_name) (0 : Int)).bind (fun x3 => (match x3 with | (.inl _) => (some ((0 : Int), false)) | (.inr r5) => (some r5))))
theorem ok_text_Kind (a_name : List Int) (r : (Int × Bool)) (h : m_text_Kind a_name = some r) : Spec Tryz.prog 11 [(.str a_name)] [] (.tuple [(.int .i64 r.1), (.bool r.2)]) [] := by
  refine spec_of_awp (fn := Tryz.f11) Tryz.func11 rfl rfl (by kernel_rfl) (fun Γ hn hΓ => ?_)
  have hn : Γ.n = 16 := hn
  unfold m_text_Kind at h
  refine rgs0 (⟨[(0, (.str a_name))], []⟩ : St) hn mix (no_hand hΓ) (by kernel_rfl) ?_
  refine awp_seq ?_
  refine rgs0 (⟨[(0, (.str a_name)), (6, (.agg ga0)), (7, (.int .i64 (0 : Int)))], []⟩ : St) hn mix (no_hand hΓ) (by kernel_rfl) ?_
  refine awp_block ?_
  refine awp_le (st' := (fun (i1 : Int) => (⟨[(0, (.str a_name)), (6, (.agg ga0)), (7, (.int .i64 i1))], []⟩ : St)) (0 : Int)) (Le.refl _ _) ?_
  obtain ⟨x3, hx3, h⟩ := bind_some h
  refine awp_loop (fun (i1 : Int) => (⟨[(0, (.str a_name)), (6, (.agg ga0)), (7, (.int .i64 i1))], []⟩ : St)) _ (fun (x_ : (Unit ⊕ (Int × Bool))) (e : Exit) (st : St) => match x_ with | (.inl _) => e = (.exit 0) ∧ Le Γ st (⟨[], []⟩ : St) | (.inr r_) => e = .ret ∧ retK Tryz.prog Tryz.f11.results.toList [] (.tuple [(.int .i64 r_.1), (.bool r_.2)]) [] e st) ?_ hx3 ?_
  · intro i1 y h
    unfold m_text_Kind_L1 at h
    refine rgs0 (⟨[(0, (.str a_name)), (6, (.agg ga0)), (7, (.int .i64 i1)), (8, (.bool (decide ((i1 : Int) < (23 : Int)))))], []⟩ : St) hn mix (no_hand hΓ) (by kernel_rfl) ?_
    refine awp_seq ?_
    refine awp_cond (decide ((i1 : Int) < (23 : Int))) (by kernel_rfl) (fun hb => ?_) (fun hb => ?_)
    · replace h := cond_t hb h
      clear hb
      refine awp_skip ?_
      refine then_normal ?_
      refine awp_seq ?_
      refine awp_block ?_
      obtain ⟨hc2, h⟩ := chk_some h
      refine rgs [] [(10, (.str (gl0.getD (i1).toNat [])))] (⟨[(0, (.str a_name)), (4, (.int .i64 i1)), (5, (.str (gl0.getD (i1).toNat []))), (6, (.agg ga0)), (7, (.int .i64 i1))], []⟩ : St) [(InB i1 23), (AVle (ga0.getD (i1).toNat .any) (.str (gl0.getD (i1).toNat [])))] hn mix (no_hand hΓ) (by kernel_rfl) ⟨hc2, (av_tabS (inB_lit hc2)), trivial⟩ ?_
      refine rgs0 (⟨[(0, (.str a_name)), (4, (.int .i64 i1)), (6, (.agg ga0)), (7, (.int .i64 i1)), (13, (.bool (((gl0.getD (i1).toNat []) : List Int) == a_name)))], []⟩ : St) hn mix (no_hand hΓ) (by kernel_rfl) ?_
      refine awp_cond (((gl0.getD (i1).toNat []) : List Int) == a_name) (by kernel_rfl) (fun hb => ?_) (fun hb => ?_)
      · replace h := cond_t hb h
        clear hb
        refine rgs0 (⟨[(2, (.int .i64 i1)), (3, (.bool true))], []⟩ : St) hn mix (no_hand hΓ) (by kernel_rfl) ?_
        refine awp_ret ?_
        refine block_ret ?_
        refine then_ret ?_
        obtain rfl := Option.some.inj h
        exact ⟨(by intro hh; cases hh), rfl, ⟨.inl rfl, [], by kernel_rfl⟩⟩
      · replace h := cond_f hb h
        clear hb
        refine awp_skip ?_
        refine block_normal ?_
        refine then_normal ?_
        refine rg0 (⟨[(0, (.str a_name)), (6, (.agg ga0)), (7, (.int .i64 (w64 (i1 + (1 : Int)))))], []⟩ : St) hn mix (no_hand hΓ) (by kernel_rfl) ?_
        obtain rfl := Option.some.inj h
        exact ⟨rfl, Le.refl _ _⟩
    · replace h := cond_f hb h
      clear hb
      refine awp_exit ?_
      refine then_exit ?_
      obtain rfl := Option.some.inj h
      exact ⟨(by intro hh; cases hh), rfl, le_restrict_eq [] [] (by kernel_rfl) (no_hand hΓ)⟩
  · clear hx3
    rcases x3 with _ | r5
    · rintro e st' ⟨rfl, hl4⟩
      refine block_here ?_
      refine then_normal ?_
      refine awp_le hl4 ?_
      refine rgs0 (⟨[(2, (.int .i64 (0 : Int))), (3, (.bool false))], []⟩ : St) hn mix (no_hand hΓ) (by kernel_rfl) ?_
      refine awp_ret ?_
      obtain rfl := Option.some.inj h
      exact ⟨.inl rfl, [], by kernel_rfl⟩
    · rintro e st' ⟨rfl, hk⟩
      refine block_ret ?_
      refine then_ret ?_
      obtain rfl := Option.some.inj h
      exact hk

noncomputable def Q39 (x1 : Treader) : List AV := [(.str x1.word), (.str x1.rest), (.bool x1.wrong)]
noncomputable def Q33 : List (Nat × AV) := [(0, (.ptr 30000 0)), (4, (.ptr 4 0)), (5, (.ptr 5 0))]
noncomputable def Q34 (x2 : (Int × Treader)) : List AV := [(.str x2.2.word), (.str x2.2.rest), (.bool x2.2.wrong)]
noncomputable def Q35 (x3 : (Int × Treader)) : List AV := [(.str x3.2.word), (.str x3.2.rest), (.bool x3.2.wrong)]
noncomputable def Q36 (x4 : (Int × Treader)) : List AV := [(.str x4.2.word), (.str x4.2.rest), (.bool x4.2.wrong)]
noncomputable def Q37 (x5 : (List (Int) × Treader)) : List AV := [(.str x5.2.word), (.str x5.2.rest), (.bool x5.2.wrong)]
noncomputable def Q38 (x6 : (Int × Treader)) : List AV := [(.str x6.2.word), (.str x6.2.rest), (.bool x6.2.wrong)]
noncomputable def Q31 : List AV := [(.int .i64 (0 : Int)), (.int .i64 (0 : Int)), (.int .i64 (0 : Int)), (.int .i64 (0 : Int)), (.slice 0 0 (fun _ => []) .exact), (.int .u64 (0 : Int))]
noncomputable def Q32 (a_kind : Int) : List AV := [(.int .i64 a_kind), (.int .i64 (0 : Int)), (.int .i64 (0 : Int)), (.int .i64 (0 : Int)), (AV.list 1 eI64 (0 : Int) ([] : List Int) .exact), (.int .u64 (0 : Int))]
noncomputable def m_text_reader_op (a_kind : Int) (a_w0 : Treader) : Option (TOp × Treader) :=
  ((m_text_reader_step a_w0).bind fun x1 => ((m_text_reader_number x1).bind fun x2 => ((m_text_reader_number x2.2).bind fun x3 => ((m_text_reader_number x3.2).bind fun x4 => ((m_text_reader_list x4.2).bind fun x5 => ((m_text_reader_whole (64 : Int) x5.2).bind fun x6 => (some ((⟨a_kind, x2.1, x3.1, x4.1, x5.1, x6.1⟩ : TOp), x6.2))))))))
theorem ok_text_reader_op (a_kind : Int) (a_w0 : Treader) (r : (TOp × Treader)) (h : m_text_reader_op a_kind a_w0 = some r) : Spec Tryz.prog 70 [(.ptr 30000 0), (.int .i64 a_kind)] [(30000, .row 69 [(.str a_w0.word), (.str a_w0.rest), (.bool a_w0.wrong)])] (.agg (eTOp r.1)) [(30000, .row 69 [(.str r.2.word), (.str r.2.rest), (.bool r.2.wrong)])] := by
  refine spec_of_awp (fn := Tryz.f70) Tryz.func70 rfl rfl (by kernel_rfl) (fun Γ hn hΓ => ?_)
  have hn : Γ.n = 26 := hn
  unfold m_text_reader_op at h
  refine rgs0 (⟨[(0, (.ptr 30000 0)), (1, (.int .i64 a_kind)), (4, (.ptr 4 0))], [(4, .row 41 Q31), (30000, .row 69 [(.str a_w0.word), (.str a_w0.rest), (.bool a_w0.wrong)])]⟩ : St) hn mix (hand_in hΓ rfl) (by kernel_rfl) ?_
  refine rgs [] [(7, (.agg (Q32 a_kind)))] (⟨Q33, [(4, .row 41 Q31), (5, .row 41 (Q32 a_kind)), (30000, .row 69 [(.str a_w0.word), (.str a_w0.rest), (.bool a_w0.wrong)])]⟩ : St) [(AVle (.agg [(.int .i64 a_kind), (.int .i64 (0 : Int)), (.int .i64 (0 : Int)), (.int .i64 (0 : Int)), (.slice 0 0 (fun _ => []) .exact), (.int .u64 (0 : Int))]) (.agg (Q32 a_kind)))] hn mix (hand_in hΓ rfl) (by kernel_rfl) ⟨(AVle.agg (.cons (AVle.refl _) (.cons (AVle.refl _) (.cons (AVle.refl _) (.cons (AVle.refl _) (.cons av_nil (.cons (AVle.refl _) .nil))))))), trivial⟩ ?_
  obtain ⟨x1, hx1, h⟩ := bind_some h
  refine rgs [⟨[(30000, 30000)], [], (.tuple []), [(30000, .row 69 (Q39 x1))]⟩] [] (⟨Q33, [(4, .row 41 Q31), (5, .row 41 (Q32 a_kind)), (30000, .row 69 (Q39 x1))]⟩ : St) [(Spec Tryz.prog 40 [(.ptr 30000 0)] [(30000, .row 69 [(.str a_w0.word), (.str a_w0.rest), (.bool a_w0.wrong)])] (.tuple []) [(30000, .row 69 (Q39 x1))])] hn mix (hand_in hΓ rfl) (by kernel_rfl) ⟨(ok_text_reader_step a_w0 x1 hx1), trivial⟩ ?_
  obtain ⟨x2, hx2, h⟩ := bind_some h
  refine rgs [⟨[(30000, 30000)], [], (.int .i64 x2.1), [(30000, .row 69 (Q34 x2))]⟩] [] (⟨Q33, [(4, .row 41 Q31), (5, .row 41 [(.int .i64 a_kind), (.int .i64 x2.1), (.int .i64 (0 : Int)), (.int .i64 (0 : Int)), (AV.list 1 eI64 (0 : Int) ([] : List Int) .exact), (.int .u64 (0 : Int))]), (30000, .row 69 (Q34 x2))]⟩ : St) [(Spec Tryz.prog 43 [(.ptr 30000 0)] [(30000, .row 69 (Q39 x1))] (.int .i64 x2.1) [(30000, .row 69 (Q34 x2))])] hn mix (hand_in hΓ rfl) (by kernel_rfl) ⟨(ok_text_reader_number x1 x2 hx2), trivial⟩ ?_
  obtain ⟨x3, hx3, h⟩ := bind_some h
  refine rgs [⟨[(30000, 30000)], [], (.int .i64 x3.1), [(30000, .row 69 (Q35 x3))]⟩] [] (⟨Q33, [(4, .row 41 Q31), (5, .row 41 [(.int .i64 a_kind), (.int .i64 x2.1), (.int .i64 x3.1), (.int .i64 (0 : Int)), (AV.list 1 eI64 (0 : Int) ([] : List Int) .exact), (.int .u64 (0 : Int))]), (30000, .row 69 (Q35 x3))]⟩ : St) [(Spec Tryz.prog 43 [(.ptr 30000 0)] [(30000, .row 69 (Q34 x2))] (.int .i64 x3.1) [(30000, .row 69 (Q35 x3))])] hn mix (hand_in hΓ rfl) (by kernel_rfl) ⟨(ok_text_reader_number x2.2 x3 hx3), trivial⟩ ?_
  obtain ⟨x4, hx4, h⟩ := bind_some h
  refine rgs [⟨[(30000, 30000)], [], (.int .i64 x4.1), [(30000, .row 69 (Q36 x4))]⟩] [] (⟨Q33, [(4, .row 41 Q31), (5, .row 41 [(.int .i64 a_kind), (.int .i64 x2.1), (.int .i64 x3.1), (.int .i64 x4.1), (AV.list 1 eI64 (0 : Int) ([] : List Int) .exact), (.int .u64 (0 : Int))]), (30000, .row 69 (Q36 x4))]⟩ : St) [(Spec Tryz.prog 43 [(.ptr 30000 0)] [(30000, .row 69 (Q35 x3))] (.int .i64 x4.1) [(30000, .row 69 (Q36 x4))])] hn mix (hand_in hΓ rfl) (by kernel_rfl) ⟨(ok_text_reader_number x3.2 x4 hx4), trivial⟩ ?_
  obtain ⟨x5, hx5, h⟩ := bind_some h
  refine rgs [⟨[(30000, 30000)], [(20000, 20)], (AV.list 1 eI64 (0 : Int) x5.1 (.own 20000)), [(30000, .row 69 (Q37 x5)), (20000, .tok 1 3 x5.1.length)]⟩] [] (⟨Q33, [(4, .row 41 Q31), (5, .row 41 [(.int .i64 a_kind), (.int .i64 x2.1), (.int .i64 x3.1), (.int .i64 x4.1), (AV.list 1 eI64 (0 : Int) x5.1 (.own 20)), (.int .u64 (0 : Int))]), (20, .tok 1 3 x5.1.length), (30000, .row 69 (Q37 x5))]⟩ : St) [(Spec Tryz.prog 42 [(.ptr 30000 0)] [(30000, .row 69 (Q36 x4))] (AV.list 1 eI64 (0 : Int) x5.1 (.own 20000)) [(30000, .row 69 (Q37 x5)), (20000, .tok 1 3 x5.1.length)])] hn mix (hand_in hΓ rfl) (by kernel_rfl) ⟨(ok_text_reader_list x4.2 x5 hx5), trivial⟩ ?_
  obtain ⟨x6, hx6, h⟩ := bind_some h
  refine rgs [⟨[(30000, 30000)], [], (.int .u64 x6.1), [(30000, .row 69 (Q38 x6))]⟩] [] (⟨[(4, (.ptr 4 0)), (5, (.ptr 5 0))], [(4, .row 41 Q31), (5, .row 41 [(.int .i64 a_kind), (.int .i64 x2.1), (.int .i64 x3.1), (.int .i64 x4.1), (AV.list 1 eI64 (0 : Int) x5.1 (.own 20)), (.int .u64 x6.1)]), (20, .tok 1 3 x5.1.length), (30000, .row 69 (Q38 x6))]⟩ : St) [(Spec Tryz.prog 68 [(.ptr 30000 0), (.int .i64 (64 : Int))] [(30000, .row 69 (Q37 x5))] (.int .u64 x6.1) [(30000, .row 69 (Q38 x6))])] hn mix (hand_in hΓ rfl) (by kernel_rfl) ⟨(ok_text_reader_whole (64 : Int) x5.2 x6 hx6), trivial⟩ ?_
  refine rgs0 (⟨[(4, (.ptr 4 0))], [(4, .row 41 [(.int .i64 a_kind), (.int .i64 x2.1), (.int .i64 x3.1), (.int .i64 x4.1), (AV.list 1 eI64 (0 : Int) x5.1 (.own 20)), (.int .u64 x6.1)]), (20, .tok 1 3 x5.1.length), (30000, .row 69 (Q38 x6))]⟩ : St) hn mix (hand_in hΓ rfl) (by kernel_rfl) ?_
  refine awp_ret ?_
  obtain rfl := Option.some.inj h
  exact ⟨.inl rfl, [(30000, 30000)], by kernel_rfl⟩

noncomputable def m_text_endKind_L1 (a_name : List Int) : Int → Option (LR Int (Unit ⊕ (Int × Bool))) :=
  fun (i1 : Int) => (bif (decide ((i1 : Int) < (4 : Int))) then (chk (InB i1 4) (bif (((gl1.getD (i1).toNat []) : List Int) == a_name) then (some (.done (.inr (i1, true)))) else (some (.next (w64 (i1 + (1 : Int))))))) else (some (.done (.inl ()))))
noncomputable def m_text_endKind (a_name : List Int) : Option (Int × Bool) :=
  ((loopO (S := Int) (X := (Unit ⊕ (Int × Bool))) (m_text_endKind_L1 a_name) (0 : Int)).bind (fun x3 => (match x3 with | (.inl _) => (some ((0 : Int), false)) | (.inr r5) => (some r5))))
theorem ok_text_endKind (a_name : List Int) (r : (Int × Bool)) (h : m_text_endKind a_name = some r) : Spec Tryz.prog 88 [(.str a_name)] [] (.tuple [(.int .i64 r.1), (.bool r.2)]) [] := by
  refine spec_of_awp (fn := Tryz.f88) Tryz.func88 rfl rfl (by kernel_rfl) (fun Γ hn hΓ => ?_)
  have hn : Γ.n = 16 := hn
  unfold m_text_endKind at h
  refine rgs0 (⟨[(0, (.str a_name))], []⟩ : St) hn mix (no_hand hΓ) (by kernel_rfl) ?_
  refine awp_seq ?_
  refine rgs0 (⟨[(0, (.str a_name)), (6, (.agg ga1)), (7, (.int .i64 (0 : Int)))], []⟩ : St) hn mix (no_hand hΓ) (by kernel_rfl) ?_
  refine awp_block ?_
  refine awp_le (st' := (fun (i1 : Int) => (⟨[(0, (.str a_name)), (6, (.agg ga1)), (7, (.int .i64 i1))], []⟩ : St)) (0 : Int)) (Le.refl _ _) ?_
  obtain ⟨x3, hx3, h⟩ := bind_some h
  refine awp_loop (fun (i1 : Int) => (⟨[(0, (.str a_name)), (6, (.agg ga1)), (7, (.int .i64 i1))], []⟩ : St)) _ (fun (x_ : (Unit ⊕ (Int × Bool))) (e : Exit) (st : St) => match x_ with | (.inl _) => e = (.exit 0) ∧ Le Γ st (⟨[], []⟩ : St) | (.inr r_) => e = .ret ∧ retK Tryz.prog Tryz.f88.results.toList [] (.tuple [(.int .i64 r_.1), (.bool r_.2)]) [] e st) ?_ hx3 ?_
  · intro i1 y h
    unfold m_text_endKind_L1 at h
    refine rgs0 (⟨[(0, (.str a_name)), (6, (.agg ga1)), (7, (.int .i64 i1)), (8, (.bool (decide ((i1 : Int) < (4 : Int)))))], []⟩ : St) hn mix (no_hand hΓ) (by kernel_rfl) ?_
    refine awp_seq ?_
    refine awp_cond (decide ((i1 : Int) < (4 : Int))) (by kernel_rfl) (fun hb => ?_) (fun hb => ?_)
    · replace h := cond_t hb h
      clear hb
      refine awp_skip ?_
      refine then_normal ?_
      refine awp_seq ?_
      refine awp_block ?_
      obtain ⟨hc2, h⟩ := chk_some h
      refine rgs [] [(10, (.str (gl1.getD (i1).toNat [])))] (⟨[(0, (.str a_name)), (4, (.int .i64 i1)), (5, (.str (gl1.getD (i1).toNat []))), (6, (.agg ga1)), (7, (.int .i64 i1))], []⟩ : St) [(InB i1 4), (AVle (ga1.getD (i1).toNat .any) (.str (gl1.getD (i1).toNat [])))] hn mix (no_hand hΓ) (by kernel_rfl) ⟨hc2, (av_tabS (inB_lit hc2)), trivial⟩ ?_
      refine rgs0 (⟨[(0, (.str a_name)), (4, (.int .i64 i1)), (6, (.agg ga1)), (7, (.int .i64 i1)), (13, (.bool (((gl1.getD (i1).toNat []) : List Int) == a_name)))], []⟩ : St) hn mix (no_hand hΓ) (by kernel_rfl) ?_
      refine awp_cond (((gl1.getD (i1).toNat []) : List Int) == a_name) (by kernel_rfl) (fun hb => ?_) (fun hb => ?_)
      · replace h := cond_t hb h
        clear hb
        refine rgs0 (⟨[(2, (.int .i64 i1)), (3, (.bool true))], []⟩ : St) hn mix (no_hand hΓ) (by kernel_rfl) ?_
        refine awp_ret ?_
        refine block_ret ?_
        refine then_ret ?_
        obtain rfl := Option.some.inj h
        exact ⟨(by intro hh; cases hh), rfl, ⟨.inl rfl, [], by kernel_rfl⟩⟩
      · replace h := cond_f hb h
        clear hb
        refine awp_skip ?_
        refine block_normal ?_
        refine then_normal ?_
        refine rg0 (⟨[(0, (.str a_name)), (6, (.agg ga1)), (7, (.int .i64 (w64 (i1 + (1 : Int)))))], []⟩ : St) hn mix (no_hand hΓ) (by kernel_rfl) ?_
        obtain rfl := Option.some.inj h
        exact ⟨rfl, Le.refl _ _⟩
    · replace h := cond_f hb h
      clear hb
      refine awp_exit ?_
      refine then_exit ?_
      obtain rfl := Option.some.inj h
      exact ⟨(by intro hh; cases hh), rfl, le_restrict_eq [] [] (by kernel_rfl) (no_hand hΓ)⟩
  · clear hx3
    rcases x3 with _ | r5
    · rintro e st' ⟨rfl, hl4⟩
      refine block_here ?_
      refine then_normal ?_
      refine awp_le hl4 ?_
      refine rgs0 (⟨[(2, (.int .i64 (0 : Int))), (3, (.bool false))], []⟩ : St) hn mix (no_hand hΓ) (by kernel_rfl) ?_
      refine awp_ret ?_
      obtain rfl := Option.some.inj h
      exact ⟨.inl rfl, [], by kernel_rfl⟩
    · rintro e st' ⟨rfl, hk⟩
      refine block_ret ?_
      refine then_ret ?_
      obtain rfl := Option.some.inj h
      exact hk

noncomputable def Q47 : AV := (.int .i64 (0 : Int))
noncomputable def Q41 : AV := (AV.list 1 eI64 (0 : Int) ([] : List Int) .exact)
noncomputable def Q43 (x2 : Treader) : List AV := [(.str x2.word), (.str x2.rest), (.bool x2.wrong)]
noncomputable def Q46 (x3 : Treader) : List AV := [(.str x3.word), (.str x3.rest), (.bool x3.wrong)]
noncomputable def Q42 (a_w0 : Treader) : List AV := [(.str a_w0.word), (.str a_w0.rest), (.bool a_w0.wrong)]
noncomputable def Q44 (x4 : (Int × Treader)) : List AV := [(.str x4.2.word), (.str x4.2.rest), (.bool x4.2.wrong)]
noncomputable def Q45 (x5 : (List (Int) × Treader)) : List AV := [(.str x5.2.word), (.str x5.2.rest), (.bool x5.2.wrong)]
noncomputable def Q40 : List AV := [Q47, Q47, (.slice 0 0 (fun _ => []) .exact)]
noncomputable def m_text_reader_end (a_w0 : Treader) : Option (TEnd × Treader) :=
  ((m_text_endKind a_w0.word).bind fun x1 => (bif (!x1.2) then ((m_text_reader_fail a_w0).bind fun x2 => (some ((⟨(0 : Int), (0 : Int), ([] : List Int)⟩ : TEnd), x2))) else ((m_text_reader_step a_w0).bind fun x3 => ((m_text_reader_number x3).bind fun x4 => ((m_text_reader_list x4.2).bind fun x5 => (some ((⟨x1.1, x4.1, x5.1⟩ : TEnd), x5.2)))))))
theorem ok_text_reader_end (a_w0 : Treader) (r : (TEnd × Treader)) (h : m_text_reader_end a_w0 = some r) : Spec Tryz.prog 71 [(.ptr 30000 0)] [(30000, .row 69 [(.str a_w0.word), (.str a_w0.rest), (.bool a_w0.wrong)])] (.agg (eTEnd r.1)) [(30000, .row 69 [(.str r.2.word), (.str r.2.rest), (.bool r.2.wrong)])] := by
  refine spec_of_awp (fn := Tryz.f71) Tryz.func71 rfl rfl (by kernel_rfl) (fun Γ hn hΓ => ?_)
  have hn : Γ.n = 30 := hn
  unfold m_text_reader_end at h
  refine rgs0 (⟨[(0, (.ptr 30000 0)), (2, (.ptr 2 0))], [(2, .row 45 Q40), (30000, .row 69 (Q42 a_w0))]⟩ : St) hn mix (hand_in hΓ rfl) (by kernel_rfl) ?_
  obtain ⟨x1, hx1, h⟩ := bind_some h
  refine rgs [⟨[], [], (.tuple [(.int .i64 x1.1), (.bool x1.2)]), []⟩] [] (⟨[(0, (.ptr 30000 0)), (2, (.ptr 2 0)), (3, (.int .i64 x1.1)), (4, (.bool x1.2))], [(2, .row 45 Q40), (30000, .row 69 (Q42 a_w0))]⟩ : St) [(Spec Tryz.prog 88 [(.str a_w0.word)] [] (.tuple [(.int .i64 x1.1), (.bool x1.2)]) [])] hn mix (hand_in hΓ rfl) (by kernel_rfl) ⟨(ok_text_endKind a_w0.word x1 hx1), trivial⟩ ?_
  refine awp_seq ?_
  refine rgs0 (⟨[(0, (.ptr 30000 0)), (2, (.ptr 2 0)), (3, (.int .i64 x1.1)), (15, (.bool (!x1.2)))], [(2, .row 45 Q40), (30000, .row 69 (Q42 a_w0))]⟩ : St) hn mix (hand_in hΓ rfl) (by kernel_rfl) ?_
  refine awp_cond (!x1.2) (by kernel_rfl) (fun hb => ?_) (fun hb => ?_)
  · replace h := cond_t hb h
    clear hb
    obtain ⟨x2, hx2, h⟩ := bind_some h
    refine rgs [⟨[(30000, 30000)], [], (.tuple []), [(30000, .row 69 (Q43 x2))]⟩] [] (⟨[(2, (.ptr 2 0))], [(2, .row 45 Q40), (30000, .row 69 (Q43 x2))]⟩ : St) [(Spec Tryz.prog 67 [(.ptr 30000 0)] [(30000, .row 69 (Q42 a_w0))] (.tuple []) [(30000, .row 69 (Q43 x2))])] hn mix (hand_in hΓ rfl) (by kernel_rfl) ⟨(ok_text_reader_fail a_w0 x2 hx2), trivial⟩ ?_
    refine rgs [] [(18, (.agg [Q47, Q47, Q41]))] (⟨[(2, (.ptr 2 0))], [(2, .row 45 [Q47, Q47, Q41]), (30000, .row 69 (Q43 x2))]⟩ : St) [(AVle (.agg Q40) (.agg [Q47, Q47, Q41]))] hn mix (hand_in hΓ rfl) (by kernel_rfl) ⟨(AVle.agg (.cons (AVle.refl _) (.cons (AVle.refl _) (.cons av_nil .nil)))), trivial⟩ ?_
    refine awp_le (st' := (⟨[(2, (.ptr 2 0))], [(2, .row 45 [Q47, Q47, (AV.list 1 eI64 (0 : Int) ([] : List Int) .none)]), (30000, .row 69 (Q43 x2))]⟩ : St)) (Le.trans (le_restrict_eq (st' := (⟨[(2, (.ptr 2 0))], [(2, .row 45 [Q47, Q47, Q41]), (30000, .row 69 (Q43 x2))]⟩ : St)) [2] [2, 30000] (by kernel_rfl) (hand_in hΓ rfl)) (le_of (.cons (AVle.refl _) .nil) (.row (.cons (AVle.refl _) (.cons (AVle.refl _) (.cons AVle.untag .nil))) (.same .nil)))) ?_
    refine awp_ret ?_
    refine then_ret ?_
    obtain rfl := Option.some.inj h
    exact ⟨.inl rfl, [(30000, 30000)], by kernel_rfl⟩
  · replace h := cond_f hb h
    clear hb
    refine awp_skip ?_
    refine then_normal ?_
    refine rgs [] [(20, (.agg [(.int .i64 x1.1), Q47, Q41]))] (⟨[(0, (.ptr 30000 0)), (2, (.ptr 2 0)), (5, (.ptr 5 0))], [(2, .row 45 Q40), (5, .row 45 [(.int .i64 x1.1), Q47, Q41]), (30000, .row 69 (Q42 a_w0))]⟩ : St) [(AVle (.agg [(.int .i64 x1.1), Q47, (.slice 0 0 (fun _ => []) .exact)]) (.agg [(.int .i64 x1.1), Q47, Q41]))] hn mix (hand_in hΓ rfl) (by kernel_rfl) ⟨(AVle.agg (.cons (AVle.refl _) (.cons (AVle.refl _) (.cons av_nil .nil)))), trivial⟩ ?_
    obtain ⟨x3, hx3, h⟩ := bind_some h
    refine rgs [⟨[(30000, 30000)], [], (.tuple []), [(30000, .row 69 (Q46 x3))]⟩] [] (⟨[(0, (.ptr 30000 0)), (2, (.ptr 2 0)), (5, (.ptr 5 0))], [(2, .row 45 Q40), (5, .row 45 [(.int .i64 x1.1), Q47, Q41]), (30000, .row 69 (Q46 x3))]⟩ : St) [(Spec Tryz.prog 40 [(.ptr 30000 0)] [(30000, .row 69 (Q42 a_w0))] (.tuple []) [(30000, .row 69 (Q46 x3))])] hn mix (hand_in hΓ rfl) (by kernel_rfl) ⟨(ok_text_reader_step a_w0 x3 hx3), trivial⟩ ?_
    obtain ⟨x4, hx4, h⟩ := bind_some h
    refine rgs [⟨[(30000, 30000)], [], (.int .i64 x4.1), [(30000, .row 69 (Q44 x4))]⟩] [] (⟨[(0, (.ptr 30000 0)), (2, (.ptr 2 0)), (5, (.ptr 5 0))], [(2, .row 45 Q40), (5, .row 45 [(.int .i64 x1.1), (.int .i64 x4.1), Q41]), (30000, .row 69 (Q44 x4))]⟩ : St) [(Spec Tryz.prog 43 [(.ptr 30000 0)] [(30000, .row 69 (Q46 x3))] (.int .i64 x4.1) [(30000, .row 69 (Q44 x4))])] hn mix (hand_in hΓ rfl) (by kernel_rfl) ⟨(ok_text_reader_number x3 x4 hx4), trivial⟩ ?_
    obtain ⟨x5, hx5, h⟩ := bind_some h
    refine rgs [⟨[(30000, 30000)], [(20000, 27)], (AV.list 1 eI64 (0 : Int) x5.1 (.own 20000)), [(30000, .row 69 (Q45 x5)), (20000, .tok 1 3 x5.1.length)]⟩] [] (⟨[(2, (.ptr 2 0)), (5, (.ptr 5 0))], [(2, .row 45 Q40), (5, .row 45 [(.int .i64 x1.1), (.int .i64 x4.1), (AV.list 1 eI64 (0 : Int) x5.1 (.own 27))]), (27, .tok 1 3 x5.1.length), (30000, .row 69 (Q45 x5))]⟩ : St) [(Spec Tryz.prog 42 [(.ptr 30000 0)] [(30000, .row 69 (Q44 x4))] (AV.list 1 eI64 (0 : Int) x5.1 (.own 20000)) [(30000, .row 69 (Q45 x5)), (20000, .tok 1 3 x5.1.length)])] hn mix (hand_in hΓ rfl) (by kernel_rfl) ⟨(ok_text_reader_list x4.2 x5 hx5), trivial⟩ ?_
    refine rgs0 (⟨[(2, (.ptr 2 0))], [(2, .row 45 [(.int .i64 x1.1), (.int .i64 x4.1), (AV.list 1 eI64 (0 : Int) x5.1 (.own 27))]), (27, .tok 1 3 x5.1.length), (30000, .row 69 (Q45 x5))]⟩ : St) hn mix (hand_in hΓ rfl) (by kernel_rfl) ?_
    refine awp_ret ?_
    obtain rfl := Option.some.inj h
    exact ⟨.inl rfl, [(30000, 30000)], by kernel_rfl⟩

noncomputable def m_text_reader_block_L1  : (List (TPhi) × List Int × List Int × Bool) → Option (LR (List (TPhi) × List Int × List Int × Bool) (List (TPhi) × List Int × List Int × Bool)) :=
  fun ((l7, u8, u9, b10) : (List (TPhi) × List Int × List Int × Bool)) => (bif (bif ((u8 : List Int) == ([112, 104, 105] : List Int)) then (decide (((l7.length : Int) : Int) < (512 : Int))) else false) then ((m_text_reader_phi (⟨u8, u9, b10⟩ : Treader)).bind fun x15 => (chk (l7.length + ([(⟨x15.1.Bits, x15.1.Dst, x15.1.From, x15.1.Args⟩ : TPhi)] : List (TPhi)).length ≤ room) (some (.next ((l7 ++ ([(⟨x15.1.Bits, x15.1.Dst, x15.1.From, x15.1.Args⟩ : TPhi)] : List (TPhi))), x15.2.word, x15.2.rest, x15.2.wrong))))) else (some (.done (l7, u8, u9, b10))))
noncomputable def m_text_reader_block_F2  : (List (TPhi) × List (TOp) × List Int × List Int × Bool) → Option (LR (List (TPhi) × List (TOp) × List Int × List Int × Bool) (TBlock × Treader)) :=
  fun (s_ : (List (TPhi) × List (TOp) × List Int × List Int × Bool)) => match s_ with | (l1, l2, u3, u4, b5) => ((m_text_Kind u3).bind fun x23 => (bif (bif x23.2 then (decide (((l2.length : Int) : Int) < (512 : Int))) else false) then ((m_text_reader_op x23.1 (⟨u3, u4, b5⟩ : Treader)).bind fun x24 => (chk (l2.length + ([(⟨x24.1.Kind, x24.1.Bits, x24.1.Lanes, x24.1.Dst, x24.1.Args, x24.1.Imm⟩ : TOp)] : List (TOp)).length ≤ room) (some (.next (l1, (l2 ++ ([(⟨x24.1.Kind, x24.1.Bits, x24.1.Lanes, x24.1.Dst, x24.1.Args, x24.1.Imm⟩ : TOp)] : List (TOp))), x24.2.word, x24.2.rest, x24.2.wrong))))) else ((m_text_reader_end (⟨u3, u4, b5⟩ : Treader)).bind fun x26 => (some (.done ((⟨l1, l2, x26.1⟩ : TBlock), x26.2))))))
noncomputable def Q63 : AV := (.slice 0 0 (fun _ => []) .exact)
noncomputable def Q54 (u8 : List Int) := ((u8 : List Int) == ([112, 104, 105] : List Int))
noncomputable def Q64 (x6 : Treader) : List AV := [(.str x6.word), (.str x6.rest), (.bool x6.wrong)]
noncomputable def Q69 (l11 : List (TPhi)) : AV := (AV.list 4 eTPhi (default : TPhi) l11 (.own 5300))
noncomputable def Q53 : List (Nat × AV) := [(0, (.ptr 30000 0)), (2, (.ptr 2 0)), (3, (.ptr 3 0))]
noncomputable def Q67 : AV := (AV.list 6 eTOp (default : TOp) ([] : List TOp) .exact)
noncomputable def Q66 (a_w0 : Treader) : List AV := [(.str a_w0.word), (.str a_w0.rest), (.bool a_w0.wrong)]
noncomputable def Q58 (x22 : (TEnd × Treader)) : List AV := [(.str x22.2.word), (.str x22.2.rest), (.bool x22.2.wrong)]
noncomputable def Q65 (x26 : (TEnd × Treader)) : List AV := [(.str x26.2.word), (.str x26.2.rest), (.bool x26.2.wrong)]
noncomputable def Q49 (x20 : (TOp × Treader)) := ([(⟨x20.1.Kind, x20.1.Bits, x20.1.Lanes, x20.1.Dst, x20.1.Args, x20.1.Imm⟩ : TOp)] : List (TOp))
noncomputable def Q68 (x20 : (TOp × Treader)) : AV := (AV.list 6 eTOp (default : TOp) (([] : List TOp) ++ (Q49 x20)) (.own 47))
noncomputable def Q51 (x15 : (TPhi × Treader)) := ([(⟨x15.1.Bits, x15.1.Dst, x15.1.From, x15.1.Args⟩ : TPhi)] : List (TPhi))
noncomputable def Q50 (x24 : (TOp × Treader)) := ([(⟨x24.1.Kind, x24.1.Bits, x24.1.Lanes, x24.1.Dst, x24.1.Args, x24.1.Imm⟩ : TOp)] : List (TOp))
noncomputable def Q48 : List AV := [Q63, Q63, (.int .i64 (0 : Int)), (.int .i64 (0 : Int)), Q63]
noncomputable def Q57 (l7 : List (TPhi)) : List AV := [(AV.list 4 eTPhi (default : TPhi) l7 (.own 5300)), Q63, (.int .i64 (0 : Int)), (.int .i64 (0 : Int)), Q63]
noncomputable def Q62 (l7 : List (TPhi)) (u8 : List Int) (u9 : List Int) (b10 : Bool) : List (Nat × Own) := [(2, .row 47 Q48), (3, .row 47 (Q57 l7)), (5300, .tok 4 49 l7.length), (30000, .row 69 [(.str u8), (.str u9), (.bool b10)])]
noncomputable def Q56 (l11 : List (TPhi)) : List AV := [(Q69 l11), Q63, (.int .i64 (0 : Int)), (.int .i64 (0 : Int)), Q63]
noncomputable def Q61 (l11 : List (TPhi)) (u12 : List Int) (u13 : List Int) (b14 : Bool) : List (Nat × Own) := [(2, .row 47 Q48), (3, .row 47 (Q56 l11)), (5300, .tok 4 49 l11.length), (30000, .row 69 [(.str u12), (.str u13), (.bool b14)])]
noncomputable def Q55 (l1 : List (TPhi)) (l2 : List (TOp)) : List AV := [(AV.list 4 eTPhi (default : TPhi) l1 (.own 5300)), (AV.list 6 eTOp (default : TOp) l2 (.own 47)), (.int .i64 (0 : Int)), (.int .i64 (0 : Int)), Q63]
noncomputable def Q60 (l1 : List (TPhi)) (l2 : List (TOp)) (u3 : List Int) (u4 : List Int) (b5 : Bool) : List (Nat × Own) := [(2, .row 47 Q48), (3, .row 47 (Q55 l1 l2)), (47, .tok 6 41 l2.length), (5300, .tok 4 49 l1.length), (30000, .row 69 [(.str u3), (.str u4), (.bool b5)])]
noncomputable def Q59 (l1 : List (TPhi)) (l2 : List (TOp)) (x26 : (TEnd × Treader)) : List AV := [(AV.list 4 eTPhi (default : TPhi) l1 (.own 5300)), (AV.list 6 eTOp (default : TOp) l2 (.own 47)), (.int .i64 x26.1.Kind), (.int .i64 x26.1.Arg), (AV.list 1 eI64 (0 : Int) x26.1.To .none)]
noncomputable def Q52 (l11 : List (TPhi)) (x22 : (TEnd × Treader)) : List AV := [(Q69 l11), Q67, (.int .i64 x22.1.Kind), (.int .i64 x22.1.Arg), (AV.list 1 eI64 (0 : Int) x22.1.To .none)]
noncomputable def m_text_reader_block (a_w0 : Treader) : Option (TBlock × Treader) :=
  ((scopeO (S := (List (TPhi) × List (TOp) × List Int × List Int × Bool)) (X := (TBlock × Treader)) ((m_text_reader_take ([98, 108, 111, 99, 107] : List Int) a_w0).bind fun x6 => ((loopO (S := (List (TPhi) × List Int × List Int × Bool)) (X := (List (TPhi) × List Int × List Int × Bool)) m_text_reader_block_L1 (([] : List TPhi), x6.word, x6.rest, x6.wrong)).bind (fun x17 => (match x17 with | (l11, u12, u13, b14) => ((m_text_Kind u12).bind fun x19 => (bif (bif x19.2 then (decide (((([] : List TOp).length : Int) : Int) < (512 : Int))) else false) then ((m_text_reader_op x19.1 (⟨u12, u13, b14⟩ : Treader)).bind fun x20 => (chk (([] : List TOp).length + ([(⟨x20.1.Kind, x20.1.Bits, x20.1.Lanes, x20.1.Dst, x20.1.Args, x20.1.Imm⟩ : TOp)] : List (TOp)).length ≤ room) (some (.next (l11, (([] : List TOp) ++ ([(⟨x20.1.Kind, x20.1.Bits, x20.1.Lanes, x20.1.Dst, x20.1.Args, x20.1.Imm⟩ : TOp)] : List (TOp))), x20.2.word, x20.2.rest, x20.2.wrong))))) else ((m_text_reader_end (⟨u12, u13, b14⟩ : Treader)).bind fun x22 => (some (.done ((⟨l11, ([] : List TOp), x22.1⟩ : TBlock), x22.2)))))))))) m_text_reader_block_F2).bind (fun x27 => ((some x27))))
theorem ok_text_reader_block (a_w0 : Treader) (r : (TBlock × Treader)) (h : m_text_reader_block a_w0 = some r) : Spec Tryz.prog 44 [(.ptr 30000 0)] [(30000, .row 69 [(.str a_w0.word), (.str a_w0.rest), (.bool a_w0.wrong)])] (.agg (eTBlock r.1)) [(30000, .row 69 [(.str r.2.word), (.str r.2.rest), (.bool r.2.wrong)])] := by
  refine spec_of_awp (fn := Tryz.f44) Tryz.func44 rfl rfl (by kernel_rfl) (fun Γ hn hΓ => ?_)
  have hn : Γ.n = 53 := hn
  unfold m_text_reader_block at h
  refine rgs0 (⟨[(0, (.ptr 30000 0)), (2, (.ptr 2 0))], [(2, .row 47 Q48), (30000, .row 69 (Q66 a_w0))]⟩ : St) hn mix (hand_in hΓ rfl) (by kernel_rfl) ?_
  obtain ⟨x27, hx27, h⟩ := bind_some h
  refine awp_scope (S := (List (TPhi) × List (TOp) × List Int × List Int × Bool)) (X := (TBlock × Treader)) (fun (s_ : (List (TPhi) × List (TOp) × List Int × List Int × Bool)) => match s_ with | (l1, l2, u3, u4, b5) => 0) (fun (s_ : (List (TPhi) × List (TOp) × List Int × List Int × Bool)) => match s_ with | (l1, l2, u3, u4, b5) => (⟨Q53, (Q60 l1 l2 u3 u4 b5)⟩ : St)) _ _ (fun (r_ : (TBlock × Treader)) (e : Exit) (st : St) => e = .ret ∧ retK Tryz.prog Tryz.f44.results.toList [(30000, .row 69 (Q66 a_w0))] (.agg (eTBlock r_.1)) [(30000, .row 69 [(.str r_.2.word), (.str r_.2.rest), (.bool r_.2.wrong)])] e st) ?_ ?_ hx27 ?_
  · clear h hx27
    intro y h
    refine rgs0 (⟨Q53, [(2, .row 47 Q48), (3, .row 47 Q48), (30000, .row 69 (Q66 a_w0))]⟩ : St) hn mix (hand_in hΓ rfl) (by kernel_rfl) ?_
    obtain ⟨x6, hx6, h⟩ := bind_some h
    refine rgs [⟨[(30000, 30000)], [], (.tuple []), [(30000, .row 69 (Q64 x6))]⟩] [] (⟨Q53, [(2, .row 47 Q48), (3, .row 47 Q48), (30000, .row 69 (Q64 x6))]⟩ : St) [(Spec Tryz.prog 41 [(.ptr 30000 0), (.str ([98, 108, 111, 99, 107] : List Int))] [(30000, .row 69 (Q66 a_w0))] (.tuple []) [(30000, .row 69 (Q64 x6))])] hn mix (hand_in hΓ rfl) (by kernel_rfl) ⟨(ok_text_reader_take ([98, 108, 111, 99, 107] : List Int) a_w0 x6 hx6), trivial⟩ ?_
    refine awp_seq ?_
    refine awp_block ?_
    refine awp_le (st' := (fun ((l7, u8, u9, b10) : (List (TPhi) × List Int × List Int × Bool)) => (⟨Q53, (Q62 l7 u8 u9 b10)⟩ : St)) (([] : List TPhi), x6.word, x6.rest, x6.wrong)) (Le.trans (le_restrict_eq (st' := (⟨Q53, [(2, .row 47 Q48), (3, .row 47 Q48), (30000, .row 69 (Q64 x6))]⟩ : St)) [0, 2, 3] [2, 3, 30000] (by kernel_rfl) (hand_in hΓ rfl)) (Le.trans (le_tag_cell (r := 3) (j := 0) (nm := 5300) (sz' := 4) (fun i => eTPhi (([] : List TPhi).getD i (default : TPhi))) 49 rfl rfl (nl rfl) rfl (.inr rfl) (fun h_ => absurd h_ (by decide))) (le_restrict_eq (st' := (⟨Q53, [(2, .row 47 Q48), (3, .row 47 [(AV.list 4 eTPhi (default : TPhi) ([] : List TPhi) (.own 5300)), Q63, (.int .i64 (0 : Int)), (.int .i64 (0 : Int)), Q63]), (5300, .tok 4 49 (([] : List TPhi).length)), (30000, .row 69 (Q64 x6))]⟩ : St)) [0, 2, 3] [2, 3, 5300, 30000] (by kernel_rfl) (hand_in hΓ rfl)))) ?_
    obtain ⟨x17, hx17, h⟩ := bind_some h
    refine awp_loop (fun ((l7, u8, u9, b10) : (List (TPhi) × List Int × List Int × Bool)) => (⟨Q53, (Q62 l7 u8 u9 b10)⟩ : St)) _ (fun ((l11, u12, u13, b14) : (List (TPhi) × List Int × List Int × Bool)) (e : Exit) (st : St) => e = (.exit 0) ∧ Le Γ st (⟨Q53, (Q61 l11 u12 u13 b14)⟩ : St)) ?_ hx17 ?_
    · rintro ⟨l7, u8, u9, b10⟩ y h
      unfold m_text_reader_block_L1 at h
      refine awp_seq ?_
      refine rgs [] [] (⟨[(0, (.ptr 30000 0)), (2, (.ptr 2 0)), (3, (.ptr 3 0)), (18, (.bool (bif (Q54 u8) then (decide (((l7.length : Int) : Int) < (512 : Int))) else false)))], (Q62 l7 u8 u9 b10)⟩ : St) [(((Q54 u8) == true) = true → ((Q54 u8) == true) = true), (((Q54 u8) == true) = true → ((Q54 u8) == true) = true), (((Q54 u8) == true) = true → ((Q54 u8) == true) = true), ((Q54 u8) = true → ((Q54 u8) == true) = true)] hn mix (hand_in hΓ rfl) (by kernel_rfl) ⟨(fun hg => hg), (fun hg => hg), (fun hg => hg), gT, trivial⟩ ?_
      refine awp_cond (bif (Q54 u8) then (decide (((l7.length : Int) : Int) < (512 : Int))) else false) (by kernel_rfl) (fun hb => ?_) (fun hb => ?_)
      · replace h := cond_t hb h
        clear hb
        refine awp_skip ?_
        refine then_normal ?_
        refine awp_block ?_
        obtain ⟨x15, hx15, h⟩ := bind_some h
        obtain ⟨hc16, h⟩ := chk_some h
        refine rg [⟨[(30000, 30000)], [], (.agg (eTPhi x15.1)), [(30000, .row 69 [(.str x15.2.word), (.str x15.2.rest), (.bool x15.2.wrong)])]⟩] [(23, (AV.list 4 eTPhi (default : TPhi) (Q51 x15) .exact)), (24, (AV.list 4 eTPhi (default : TPhi) (l7 ++ (Q51 x15)) (.own 5300)))] (⟨Q53, [(2, .row 47 Q48), (3, .row 47 [(AV.list 4 eTPhi (default : TPhi) (l7 ++ (Q51 x15)) (.own 5300)), Q63, (.int .i64 (0 : Int)), (.int .i64 (0 : Int)), Q63]), (5300, .tok 4 49 ((l7 ++ (Q51 x15)).length)), (30000, .row 69 [(.str x15.2.word), (.str x15.2.rest), (.bool x15.2.wrong)])]⟩ : St) [(Spec Tryz.prog 69 [(.ptr 30000 0)] [(30000, .row 69 [(.str u8), (.str u9), (.bool b10)])] (.agg (eTPhi x15.1)) [(30000, .row 69 [(.str x15.2.word), (.str x15.2.rest), (.bool x15.2.wrong)])]), (AVle (.slice 4 1 (fun i => ([[(.int .i64 x15.1.Bits), (.int .i64 x15.1.Dst), (AV.list 1 eI64 (0 : Int) x15.1.From .none), (AV.list 1 eI64 (0 : Int) x15.1.Args .none)]] : List (List AV)).getD i []) .exact) (AV.list 4 eTPhi (default : TPhi) (Q51 x15) .exact)), (l7.length = l7.length), (l7.length + (Q51 x15).length ≤ room), (AVle (.slice 4 (l7.length + (Q51 x15).length) (appF l7.length (fun i => eTPhi (l7.getD i (default : TPhi))) (fun i => eTPhi ((Q51 x15).getD i (default : TPhi)))) (.own 5300)) (AV.list 4 eTPhi (default : TPhi) (l7 ++ (Q51 x15)) (.own 5300))), (l7.length + (Q51 x15).length = (l7 ++ (Q51 x15)).length)] hn mix (hand_in hΓ rfl) (by kernel_rfl) ⟨(ok_text_reader_phi (⟨u8, u9, b10⟩ : Treader) x15 hx15), (av_lit rfl (fun i hi => map_get (e := eTPhi) (d := (default : TPhi)) (Q51 x15) i hi)), rfl, hc16, av_app, (len_app _ _), trivial⟩ ?_
        refine block_normal ?_
        obtain rfl := Option.some.inj h
        exact ⟨rfl, Le.refl _ _⟩
      · replace h := cond_f hb h
        clear hb
        refine awp_exit ?_
        refine then_exit ?_
        obtain rfl := Option.some.inj h
        exact ⟨(by intro hh; cases hh), rfl, le_restrict_eq [0, 2, 3] [2, 3, 5300, 30000] (by kernel_rfl) (hand_in hΓ rfl)⟩
    · clear hx17
      rcases x17 with ⟨l11, u12, u13, b14⟩
      rintro e st' ⟨rfl, hl18⟩
      refine block_here ?_
      refine then_normal ?_
      refine awp_le hl18 ?_
      refine awp_seq ?_
      refine awp_label ?_
      refine then_normal ?_
      refine awp_seq ?_
      obtain ⟨x19, hx19, h⟩ := bind_some h
      refine rgs [⟨[], [], (.tuple [(.int .i64 x19.1), (.bool x19.2)]), []⟩] [] (⟨[(0, (.ptr 30000 0)), (2, (.ptr 2 0)), (3, (.ptr 3 0)), (4, (.int .i64 x19.1)), (5, (.bool x19.2))], (Q61 l11 u12 u13 b14)⟩ : St) [(Spec Tryz.prog 11 [(.str u12)] [] (.tuple [(.int .i64 x19.1), (.bool x19.2)]) [])] hn mix (hand_in hΓ rfl) (by kernel_rfl) ⟨(ok_text_Kind u12 x19 hx19), trivial⟩ ?_
      refine rgs [] [(37, Q67)] (⟨[(0, (.ptr 30000 0)), (2, (.ptr 2 0)), (3, (.ptr 3 0)), (4, (.int .i64 x19.1)), (40, (.bool (bif x19.2 then (decide (((([] : List TOp).length : Int) : Int) < (512 : Int))) else false)))], (Q61 l11 u12 u13 b14)⟩ : St) [((x19.2 == true) = true → (x19.2 == true) = true), ((x19.2 == true) = true → (AVle Q63 Q67)), ((x19.2 == true) = true → (x19.2 == true) = true), ((x19.2 == true) = true → (x19.2 == true) = true), (x19.2 = true → (x19.2 == true) = true)] hn mix (hand_in hΓ rfl) (by kernel_rfl) ⟨(fun hg => hg), (fun hg => av_nil), (fun hg => hg), (fun hg => hg), gT, trivial⟩ ?_
      refine awp_cond (bif x19.2 then (decide (((([] : List TOp).length : Int) : Int) < (512 : Int))) else false) (by kernel_rfl) (fun hb => ?_) (fun hb => ?_)
      · replace h := cond_t hb h
        clear hb
        obtain ⟨x20, hx20, h⟩ := bind_some h
        obtain ⟨hc21, h⟩ := chk_some h
        refine rgs [⟨[(30000, 30000)], [], (.agg (eTOp x20.1)), [(30000, .row 69 [(.str x20.2.word), (.str x20.2.rest), (.bool x20.2.wrong)])]⟩] [(42, Q67), (46, (AV.list 6 eTOp (default : TOp) (Q49 x20) .exact)), (47, (Q68 x20))] (⟨Q53, [(2, .row 47 Q48), (3, .row 47 [(Q69 l11), (Q68 x20), (.int .i64 (0 : Int)), (.int .i64 (0 : Int)), Q63]), (47, .tok 6 41 ((([] : List TOp) ++ (Q49 x20)).length)), (5300, .tok 4 49 l11.length), (30000, .row 69 [(.str x20.2.word), (.str x20.2.rest), (.bool x20.2.wrong)])]⟩ : St) [(AVle Q63 Q67), (Spec Tryz.prog 70 [(.ptr 30000 0), (.int .i64 x19.1)] [(30000, .row 69 [(.str u12), (.str u13), (.bool b14)])] (.agg (eTOp x20.1)) [(30000, .row 69 [(.str x20.2.word), (.str x20.2.rest), (.bool x20.2.wrong)])]), (AVle (.slice 6 1 (fun i => ([[(.int .i64 x20.1.Kind), (.int .i64 x20.1.Bits), (.int .i64 x20.1.Lanes), (.int .i64 x20.1.Dst), (AV.list 1 eI64 (0 : Int) x20.1.Args .none), (.int .u64 x20.1.Imm)]] : List (List AV)).getD i []) .exact) (AV.list 6 eTOp (default : TOp) (Q49 x20) .exact)), (([] : List TOp).length + (Q49 x20).length ≤ room), (41 = tokU8 → ([] : List TOp).length = 0 ∨ 0 < (Q49 x20).length), (AVle (.slice 6 (([] : List TOp).length + (Q49 x20).length) (appF ([] : List TOp).length (fun i => eTOp (([] : List TOp).getD i (default : TOp))) (fun i => eTOp ((Q49 x20).getD i (default : TOp)))) (.own 47)) (Q68 x20)), (([] : List TOp).length + (Q49 x20).length = (([] : List TOp) ++ (Q49 x20)).length)] hn mix (hand_in hΓ rfl) (by kernel_rfl) ⟨av_nil, (ok_text_reader_op x19.1 (⟨u12, u13, b14⟩ : Treader) x20 hx20), (av_lit rfl (fun i hi => map_get (e := eTOp) (d := (default : TOp)) (Q49 x20) i hi)), hc21, (fun h_ => absurd h_ (by decide)), av_app, (len_app _ _), trivial⟩ ?_
        refine awp_goto ?_
        refine then_goto ?_
        obtain rfl := Option.some.inj h
        exact ⟨rfl, rfl, Le.refl _ _⟩
      · replace h := cond_f hb h
        clear hb
        refine awp_skip ?_
        refine then_normal ?_
        obtain ⟨x22, hx22, h⟩ := bind_some h
        refine rgs [⟨[(30000, 30000)], [], (.agg (eTEnd x22.1)), [(30000, .row 69 (Q58 x22))]⟩] [] (⟨[(2, (.ptr 2 0)), (3, (.ptr 3 0))], [(2, .row 47 Q48), (3, .row 47 [(Q69 l11), Q63, (.int .i64 x22.1.Kind), (.int .i64 x22.1.Arg), (AV.list 1 eI64 (0 : Int) x22.1.To .none)]), (5300, .tok 4 49 l11.length), (30000, .row 69 (Q58 x22))]⟩ : St) [(Spec Tryz.prog 71 [(.ptr 30000 0)] [(30000, .row 69 [(.str u12), (.str u13), (.bool b14)])] (.agg (eTEnd x22.1)) [(30000, .row 69 (Q58 x22))])] hn mix (hand_in hΓ rfl) (by kernel_rfl) ⟨(ok_text_reader_end (⟨u12, u13, b14⟩ : Treader) x22 hx22), trivial⟩ ?_
        refine rgs [] [(52, (.agg (Q52 l11 x22)))] (⟨[(2, (.ptr 2 0))], [(2, .row 47 (Q52 l11 x22)), (5300, .tok 4 49 l11.length), (30000, .row 69 (Q58 x22))]⟩ : St) [(AVle (.agg [(Q69 l11), Q63, (.int .i64 x22.1.Kind), (.int .i64 x22.1.Arg), (AV.list 1 eI64 (0 : Int) x22.1.To .none)]) (.agg (Q52 l11 x22)))] hn mix (hand_in hΓ rfl) (by kernel_rfl) ⟨(AVle.agg (.cons (AVle.refl _) (.cons av_nil (.cons (AVle.refl _) (.cons (AVle.refl _) (.cons (AVle.refl _) .nil)))))), trivial⟩ ?_
        refine awp_le (st' := (⟨[(2, (.ptr 2 0))], [(2, .row 47 [(Q69 l11), (AV.list 6 eTOp (default : TOp) ([] : List TOp) .none), (.int .i64 x22.1.Kind), (.int .i64 x22.1.Arg), (AV.list 1 eI64 (0 : Int) x22.1.To .none)]), (5300, .tok 4 49 l11.length), (30000, .row 69 (Q58 x22))]⟩ : St)) (Le.trans (le_restrict_eq (st' := (⟨[(2, (.ptr 2 0))], [(2, .row 47 (Q52 l11 x22)), (5300, .tok 4 49 l11.length), (30000, .row 69 (Q58 x22))]⟩ : St)) [2] [2, 5300, 30000] (by kernel_rfl) (hand_in hΓ rfl)) (le_of (.cons (AVle.refl _) .nil) (.row (.cons (AVle.refl _) (.cons AVle.untag (.cons (AVle.refl _) (.cons (AVle.refl _) (.cons (AVle.refl _) .nil))))) (.same (.same .nil))))) ?_
        refine awp_ret ?_
        obtain rfl := Option.some.inj h
        exact ⟨(by intro l hh; cases hh), rfl, ⟨.inl rfl, [(30000, 30000)], by kernel_rfl⟩⟩
  · clear h hx27
    rintro ⟨l1, l2, u3, u4, b5⟩ y rest hf h
    obtain rfl := Option.some.inj hf
    clear hf
    unfold m_text_reader_block_F2 at h
    refine awp_seq ?_
    refine awp_skip ?_
    refine then_normal ?_
    refine awp_seq ?_
    obtain ⟨x23, hx23, h⟩ := bind_some h
    refine rgs [⟨[], [], (.tuple [(.int .i64 x23.1), (.bool x23.2)]), []⟩] [] (⟨[(0, (.ptr 30000 0)), (2, (.ptr 2 0)), (3, (.ptr 3 0)), (4, (.int .i64 x23.1)), (5, (.bool x23.2))], (Q60 l1 l2 u3 u4 b5)⟩ : St) [(Spec Tryz.prog 11 [(.str u3)] [] (.tuple [(.int .i64 x23.1), (.bool x23.2)]) [])] hn mix (hand_in hΓ rfl) (by kernel_rfl) ⟨(ok_text_Kind u3 x23 hx23), trivial⟩ ?_
    refine rgs [] [] (⟨[(0, (.ptr 30000 0)), (2, (.ptr 2 0)), (3, (.ptr 3 0)), (4, (.int .i64 x23.1)), (40, (.bool (bif x23.2 then (decide (((l2.length : Int) : Int) < (512 : Int))) else false)))], (Q60 l1 l2 u3 u4 b5)⟩ : St) [((x23.2 == true) = true → (x23.2 == true) = true), ((x23.2 == true) = true → (x23.2 == true) = true), ((x23.2 == true) = true → (x23.2 == true) = true), (x23.2 = true → (x23.2 == true) = true)] hn mix (hand_in hΓ rfl) (by kernel_rfl) ⟨(fun hg => hg), (fun hg => hg), (fun hg => hg), gT, trivial⟩ ?_
    refine awp_cond (bif x23.2 then (decide (((l2.length : Int) : Int) < (512 : Int))) else false) (by kernel_rfl) (fun hb => ?_) (fun hb => ?_)
    · replace h := cond_t hb h
      clear hb
      obtain ⟨x24, hx24, h⟩ := bind_some h
      obtain ⟨hc25, h⟩ := chk_some h
      refine rgs [⟨[(30000, 30000)], [], (.agg (eTOp x24.1)), [(30000, .row 69 [(.str x24.2.word), (.str x24.2.rest), (.bool x24.2.wrong)])]⟩] [(46, (AV.list 6 eTOp (default : TOp) (Q50 x24) .exact)), (47, (AV.list 6 eTOp (default : TOp) (l2 ++ (Q50 x24)) (.own 47)))] (⟨Q53, [(2, .row 47 Q48), (3, .row 47 [(AV.list 4 eTPhi (default : TPhi) l1 (.own 5300)), (AV.list 6 eTOp (default : TOp) (l2 ++ (Q50 x24)) (.own 47)), (.int .i64 (0 : Int)), (.int .i64 (0 : Int)), Q63]), (47, .tok 6 41 ((l2 ++ (Q50 x24)).length)), (5300, .tok 4 49 l1.length), (30000, .row 69 [(.str x24.2.word), (.str x24.2.rest), (.bool x24.2.wrong)])]⟩ : St) [(Spec Tryz.prog 70 [(.ptr 30000 0), (.int .i64 x23.1)] [(30000, .row 69 [(.str u3), (.str u4), (.bool b5)])] (.agg (eTOp x24.1)) [(30000, .row 69 [(.str x24.2.word), (.str x24.2.rest), (.bool x24.2.wrong)])]), (AVle (.slice 6 1 (fun i => ([[(.int .i64 x24.1.Kind), (.int .i64 x24.1.Bits), (.int .i64 x24.1.Lanes), (.int .i64 x24.1.Dst), (AV.list 1 eI64 (0 : Int) x24.1.Args .none), (.int .u64 x24.1.Imm)]] : List (List AV)).getD i []) .exact) (AV.list 6 eTOp (default : TOp) (Q50 x24) .exact)), (l2.length = l2.length), (l2.length + (Q50 x24).length ≤ room), (AVle (.slice 6 (l2.length + (Q50 x24).length) (appF l2.length (fun i => eTOp (l2.getD i (default : TOp))) (fun i => eTOp ((Q50 x24).getD i (default : TOp)))) (.own 47)) (AV.list 6 eTOp (default : TOp) (l2 ++ (Q50 x24)) (.own 47))), (l2.length + (Q50 x24).length = (l2 ++ (Q50 x24)).length)] hn mix (hand_in hΓ rfl) (by kernel_rfl) ⟨(ok_text_reader_op x23.1 (⟨u3, u4, b5⟩ : Treader) x24 hx24), (av_lit rfl (fun i hi => map_get (e := eTOp) (d := (default : TOp)) (Q50 x24) i hi)), rfl, hc25, av_app, (len_app _ _), trivial⟩ ?_
      refine awp_goto ?_
      refine then_goto ?_
      obtain rfl := Option.some.inj h
      exact ⟨rfl, rfl, Le.refl _ _⟩
    · replace h := cond_f hb h
      clear hb
      refine awp_skip ?_
      refine then_normal ?_
      obtain ⟨x26, hx26, h⟩ := bind_some h
      refine rgs [⟨[(30000, 30000)], [], (.agg (eTEnd x26.1)), [(30000, .row 69 (Q65 x26))]⟩] [] (⟨[(2, (.ptr 2 0)), (3, (.ptr 3 0))], [(2, .row 47 Q48), (3, .row 47 (Q59 l1 l2 x26)), (47, .tok 6 41 l2.length), (5300, .tok 4 49 l1.length), (30000, .row 69 (Q65 x26))]⟩ : St) [(Spec Tryz.prog 71 [(.ptr 30000 0)] [(30000, .row 69 [(.str u3), (.str u4), (.bool b5)])] (.agg (eTEnd x26.1)) [(30000, .row 69 (Q65 x26))])] hn mix (hand_in hΓ rfl) (by kernel_rfl) ⟨(ok_text_reader_end (⟨u3, u4, b5⟩ : Treader) x26 hx26), trivial⟩ ?_
      refine rgs0 (⟨[(2, (.ptr 2 0))], [(2, .row 47 (Q59 l1 l2 x26)), (47, .tok 6 41 l2.length), (5300, .tok 4 49 l1.length), (30000, .row 69 (Q65 x26))]⟩ : St) hn mix (hand_in hΓ rfl) (by kernel_rfl) ?_
      refine awp_ret ?_
      obtain rfl := Option.some.inj h
      exact ⟨(by intro l hh; cases hh), rfl, ⟨.inl rfl, [(30000, 30000)], by kernel_rfl⟩⟩
  · clear hx27
    rintro e st' ⟨rfl, hk⟩
    obtain rfl := Option.some.inj h
    exact hk

noncomputable def m_text_reader_function_L1  : (List (TBlock) × List Int × List Int × Bool) → Option (LR (List (TBlock) × List Int × List Int × Bool) (List (TBlock) × List Int × List Int × Bool)) :=
  fun ((l4, u5, u6, b7) : (List (TBlock) × List Int × List Int × Bool)) => (bif (bif (!((u5 : List Int) == ([] : List Int))) then (decide (((l4.length : Int) : Int) < (64 : Int))) else false) then ((m_text_reader_block (⟨u5, u6, b7⟩ : Treader)).bind fun x12 => (chk (l4.length + ([(⟨x12.1.Phis, x12.1.Ops, (⟨x12.1.End.Kind, x12.1.End.Arg, x12.1.End.To⟩ : TEnd)⟩ : TBlock)] : List (TBlock)).length ≤ room) (some (.next ((l4 ++ ([(⟨x12.1.Phis, x12.1.Ops, (⟨x12.1.End.Kind, x12.1.End.Arg, x12.1.End.To⟩ : TEnd)⟩ : TBlock)] : List (TBlock))), x12.2.word, x12.2.rest, x12.2.wrong))))) else (some (.done (l4, u5, u6, b7))))
noncomputable def Q76 := (default : TBlock)
noncomputable def Q74 (u5 : List Int) := (!((u5 : List Int) == ([] : List Int)))
noncomputable def Q73 (x2 : (List (Int) × Treader)) : AV := (AV.list 1 eI64 (0 : Int) x2.1 (.own 7))
noncomputable def Q79 (x1 : Treader) : List AV := [(.str x1.word), (.str x1.rest), (.bool x1.wrong)]
noncomputable def Q78 (x16 : Treader) : List AV := [(.str x16.word), (.str x16.rest), (.bool x16.wrong)]
noncomputable def Q72 : List (Nat × AV) := [(0, (.ptr 30000 0)), (2, (.ptr 2 0)), (3, (.ptr 3 0))]
noncomputable def Q75 (x3 : (Int × Treader)) : List AV := [(.str x3.2.word), (.str x3.2.rest), (.bool x3.2.wrong)]
noncomputable def Q77 (x2 : (List (Int) × Treader)) : List AV := [(.str x2.2.word), (.str x2.2.rest), (.bool x2.2.wrong)]
noncomputable def Q70 : List AV := [(.slice 0 0 (fun _ => []) .exact), (.int .i64 (0 : Int)), (.slice 0 0 (fun _ => []) .exact)]
noncomputable def Q71 (x12 : (TBlock × Treader)) := ([(⟨x12.1.Phis, x12.1.Ops, (⟨x12.1.End.Kind, x12.1.End.Arg, x12.1.End.To⟩ : TEnd)⟩ : TBlock)] : List (TBlock))
noncomputable def Q81 (x2 : (List (Int) × Treader)) (x3 : (Int × Treader)) := (⟨Q72, [(2, .row 25 Q70), (3, .row 25 [(Q73 x2), (.int .i64 x3.1), (.slice 0 0 (fun _ => []) .exact)]), (7, .tok 1 3 x2.1.length), (30000, .row 69 (Q75 x3))]⟩ : St)
noncomputable def Q80 (x2 : (List (Int) × Treader)) (x3 : (Int × Treader)) (l4 : List (TBlock)) (u5 : List Int) (u6 : List Int) (b7 : Bool) : List (Nat × Own) := [(2, .row 25 Q70), (3, .row 25 [(Q73 x2), (.int .i64 x3.1), (AV.list 5 eTBlock Q76 l4 (.own 5302))]), (7, .tok 1 3 x2.1.length), (5302, .tok 5 47 l4.length), (30000, .row 69 [(.str u5), (.str u6), (.bool b7)])]
noncomputable def m_text_reader_function (a_w0 : Treader) : Option (TFunc × Treader) :=
  ((m_text_reader_take ([102, 117, 110, 99] : List Int) a_w0).bind fun x1 => ((m_text_reader_list x1).bind fun x2 => ((m_text_reader_number x2.2).bind fun x3 => ((loopO (S := (List (TBlock) × List Int × List Int × Bool)) (X := (List (TBlock) × List Int × List Int × Bool)) m_text_reader_function_L1 (([] : List TBlock), x3.2.word, x3.2.rest, x3.2.wrong)).bind (fun x14 => (match x14 with | (l8, u9, u10, b11) => ((m_text_reader_take ([] : List Int) (⟨u9, u10, b11⟩ : Treader)).bind fun x16 => (some ((⟨x2.1, x3.1, l8⟩ : TFunc), x16)))))))))
theorem ok_text_reader_function (a_w0 : Treader) (r : (TFunc × Treader)) (h : m_text_reader_function a_w0 = some r) : Spec Tryz.prog 25 [(.ptr 30000 0)] [(30000, .row 69 [(.str a_w0.word), (.str a_w0.rest), (.bool a_w0.wrong)])] (.agg (eTFunc r.1)) [(30000, .row 69 [(.str r.2.word), (.str r.2.rest), (.bool r.2.wrong)])] := by
  refine spec_of_awp (fn := Tryz.f25) Tryz.func25 rfl rfl (by kernel_rfl) (fun Γ hn hΓ => ?_)
  have hn : Γ.n = 33 := hn
  unfold m_text_reader_function at h
  refine rgs0 (⟨[(0, (.ptr 30000 0)), (2, (.ptr 2 0))], [(2, .row 25 Q70), (30000, .row 69 [(.str a_w0.word), (.str a_w0.rest), (.bool a_w0.wrong)])]⟩ : St) hn mix (hand_in hΓ rfl) (by kernel_rfl) ?_
  refine rgs0 (⟨Q72, [(2, .row 25 Q70), (3, .row 25 Q70), (30000, .row 69 [(.str a_w0.word), (.str a_w0.rest), (.bool a_w0.wrong)])]⟩ : St) hn mix (hand_in hΓ rfl) (by kernel_rfl) ?_
  obtain ⟨x1, hx1, h⟩ := bind_some h
  refine rgs [⟨[(30000, 30000)], [], (.tuple []), [(30000, .row 69 (Q79 x1))]⟩] [] (⟨Q72, [(2, .row 25 Q70), (3, .row 25 Q70), (30000, .row 69 (Q79 x1))]⟩ : St) [(Spec Tryz.prog 41 [(.ptr 30000 0), (.str ([102, 117, 110, 99] : List Int))] [(30000, .row 69 [(.str a_w0.word), (.str a_w0.rest), (.bool a_w0.wrong)])] (.tuple []) [(30000, .row 69 (Q79 x1))])] hn mix (hand_in hΓ rfl) (by kernel_rfl) ⟨(ok_text_reader_take ([102, 117, 110, 99] : List Int) a_w0 x1 hx1), trivial⟩ ?_
  obtain ⟨x2, hx2, h⟩ := bind_some h
  refine rgs [⟨[(30000, 30000)], [(20000, 7)], (AV.list 1 eI64 (0 : Int) x2.1 (.own 20000)), [(30000, .row 69 (Q77 x2)), (20000, .tok 1 3 x2.1.length)]⟩] [] (⟨Q72, [(2, .row 25 Q70), (3, .row 25 [(Q73 x2), (.int .i64 (0 : Int)), (.slice 0 0 (fun _ => []) .exact)]), (7, .tok 1 3 x2.1.length), (30000, .row 69 (Q77 x2))]⟩ : St) [(Spec Tryz.prog 42 [(.ptr 30000 0)] [(30000, .row 69 (Q79 x1))] (AV.list 1 eI64 (0 : Int) x2.1 (.own 20000)) [(30000, .row 69 (Q77 x2)), (20000, .tok 1 3 x2.1.length)])] hn mix (hand_in hΓ rfl) (by kernel_rfl) ⟨(ok_text_reader_list x1 x2 hx2), trivial⟩ ?_
  obtain ⟨x3, hx3, h⟩ := bind_some h
  refine rgs [⟨[(30000, 30000)], [], (.int .i64 x3.1), [(30000, .row 69 (Q75 x3))]⟩] [] (Q81 x2 x3) [(Spec Tryz.prog 43 [(.ptr 30000 0)] [(30000, .row 69 (Q77 x2))] (.int .i64 x3.1) [(30000, .row 69 (Q75 x3))])] hn mix (hand_in hΓ rfl) (by kernel_rfl) ⟨(ok_text_reader_number x2.2 x3 hx3), trivial⟩ ?_
  refine awp_seq ?_
  refine awp_block ?_
  refine awp_le (st' := (fun ((l4, u5, u6, b7) : (List (TBlock) × List Int × List Int × Bool)) => (⟨Q72, (Q80 x2 x3 l4 u5 u6 b7)⟩ : St)) (([] : List TBlock), x3.2.word, x3.2.rest, x3.2.wrong)) (Le.trans (le_restrict_eq (st' := (Q81 x2 x3)) [0, 2, 3] [2, 3, 7, 30000] (by kernel_rfl) (hand_in hΓ rfl)) (Le.trans (le_tag_cell (r := 3) (j := 2) (nm := 5302) (sz' := 5) (fun i => eTBlock (([] : List TBlock).getD i Q76)) 47 rfl rfl (nl rfl) rfl (.inr rfl) (fun h_ => absurd h_ (by decide))) (le_restrict_eq (st' := (⟨Q72, [(2, .row 25 Q70), (3, .row 25 [(Q73 x2), (.int .i64 x3.1), (AV.list 5 eTBlock Q76 ([] : List TBlock) (.own 5302))]), (7, .tok 1 3 x2.1.length), (5302, .tok 5 47 (([] : List TBlock).length)), (30000, .row 69 (Q75 x3))]⟩ : St)) [0, 2, 3] [2, 3, 7, 5302, 30000] (by kernel_rfl) (hand_in hΓ rfl)))) ?_
  obtain ⟨x14, hx14, h⟩ := bind_some h
  refine awp_loop (fun ((l4, u5, u6, b7) : (List (TBlock) × List Int × List Int × Bool)) => (⟨Q72, (Q80 x2 x3 l4 u5 u6 b7)⟩ : St)) _ (fun ((l8, u9, u10, b11) : (List (TBlock) × List Int × List Int × Bool)) (e : Exit) (st : St) => e = (.exit 0) ∧ Le Γ st (⟨Q72, [(2, .row 25 Q70), (3, .row 25 [(Q73 x2), (.int .i64 x3.1), (AV.list 5 eTBlock Q76 l8 (.own 5302))]), (7, .tok 1 3 x2.1.length), (5302, .tok 5 47 l8.length), (30000, .row 69 [(.str u9), (.str u10), (.bool b11)])]⟩ : St)) ?_ hx14 ?_
  · rintro ⟨l4, u5, u6, b7⟩ y h
    unfold m_text_reader_function_L1 at h
    refine awp_seq ?_
    refine rgs [] [] (⟨[(0, (.ptr 30000 0)), (2, (.ptr 2 0)), (3, (.ptr 3 0)), (22, (.bool (bif (Q74 u5) then (decide (((l4.length : Int) : Int) < (64 : Int))) else false)))], (Q80 x2 x3 l4 u5 u6 b7)⟩ : St) [(((Q74 u5) == true) = true → ((Q74 u5) == true) = true), (((Q74 u5) == true) = true → ((Q74 u5) == true) = true), (((Q74 u5) == true) = true → ((Q74 u5) == true) = true), ((Q74 u5) = true → ((Q74 u5) == true) = true)] hn mix (hand_in hΓ rfl) (by kernel_rfl) ⟨(fun hg => hg), (fun hg => hg), (fun hg => hg), gT, trivial⟩ ?_
    refine awp_cond (bif (Q74 u5) then (decide (((l4.length : Int) : Int) < (64 : Int))) else false) (by kernel_rfl) (fun hb => ?_) (fun hb => ?_)
    · replace h := cond_t hb h
      clear hb
      refine awp_skip ?_
      refine then_normal ?_
      refine awp_block ?_
      obtain ⟨x12, hx12, h⟩ := bind_some h
      obtain ⟨hc13, h⟩ := chk_some h
      refine rg [⟨[(30000, 30000)], [], (.agg (eTBlock x12.1)), [(30000, .row 69 [(.str x12.2.word), (.str x12.2.rest), (.bool x12.2.wrong)])]⟩] [(27, (AV.list 5 eTBlock Q76 (Q71 x12) .exact)), (28, (AV.list 5 eTBlock Q76 (l4 ++ (Q71 x12)) (.own 5302)))] (⟨Q72, [(2, .row 25 Q70), (3, .row 25 [(Q73 x2), (.int .i64 x3.1), (AV.list 5 eTBlock Q76 (l4 ++ (Q71 x12)) (.own 5302))]), (7, .tok 1 3 x2.1.length), (5302, .tok 5 47 ((l4 ++ (Q71 x12)).length)), (30000, .row 69 [(.str x12.2.word), (.str x12.2.rest), (.bool x12.2.wrong)])]⟩ : St) [(Spec Tryz.prog 44 [(.ptr 30000 0)] [(30000, .row 69 [(.str u5), (.str u6), (.bool b7)])] (.agg (eTBlock x12.1)) [(30000, .row 69 [(.str x12.2.word), (.str x12.2.rest), (.bool x12.2.wrong)])]), (AVle (.slice 5 1 (fun i => ([[(AV.list 4 eTPhi (default : TPhi) x12.1.Phis .none), (AV.list 6 eTOp (default : TOp) x12.1.Ops .none), (.int .i64 x12.1.End.Kind), (.int .i64 x12.1.End.Arg), (AV.list 1 eI64 (0 : Int) x12.1.End.To .none)]] : List (List AV)).getD i []) .exact) (AV.list 5 eTBlock Q76 (Q71 x12) .exact)), (l4.length = l4.length), (l4.length + (Q71 x12).length ≤ room), (AVle (.slice 5 (l4.length + (Q71 x12).length) (appF l4.length (fun i => eTBlock (l4.getD i Q76)) (fun i => eTBlock ((Q71 x12).getD i Q76))) (.own 5302)) (AV.list 5 eTBlock Q76 (l4 ++ (Q71 x12)) (.own 5302))), (l4.length + (Q71 x12).length = (l4 ++ (Q71 x12)).length)] hn mix (hand_in hΓ rfl) (by kernel_rfl) ⟨(ok_text_reader_block (⟨u5, u6, b7⟩ : Treader) x12 hx12), (av_lit rfl (fun i hi => map_get (e := eTBlock) (d := Q76) (Q71 x12) i hi)), rfl, hc13, av_app, (len_app _ _), trivial⟩ ?_
      refine block_normal ?_
      obtain rfl := Option.some.inj h
      exact ⟨rfl, Le.refl _ _⟩
    · replace h := cond_f hb h
      clear hb
      refine awp_exit ?_
      refine then_exit ?_
      obtain rfl := Option.some.inj h
      exact ⟨(by intro hh; cases hh), rfl, le_restrict_eq [0, 2, 3] [2, 3, 7, 5302, 30000] (by kernel_rfl) (hand_in hΓ rfl)⟩
  · clear hx14
    rcases x14 with ⟨l8, u9, u10, b11⟩
    rintro e st' ⟨rfl, hl15⟩
    refine block_here ?_
    refine then_normal ?_
    refine awp_le hl15 ?_
    obtain ⟨x16, hx16, h⟩ := bind_some h
    refine rgs [⟨[(30000, 30000)], [], (.tuple []), [(30000, .row 69 (Q78 x16))]⟩] [] (⟨[(2, (.ptr 2 0)), (3, (.ptr 3 0))], [(2, .row 25 Q70), (3, .row 25 [(Q73 x2), (.int .i64 x3.1), (AV.list 5 eTBlock Q76 l8 (.own 5302))]), (7, .tok 1 3 x2.1.length), (5302, .tok 5 47 l8.length), (30000, .row 69 (Q78 x16))]⟩ : St) [(Spec Tryz.prog 41 [(.ptr 30000 0), (.str ([] : List Int))] [(30000, .row 69 [(.str u9), (.str u10), (.bool b11)])] (.tuple []) [(30000, .row 69 (Q78 x16))])] hn mix (hand_in hΓ rfl) (by kernel_rfl) ⟨(ok_text_reader_take ([] : List Int) (⟨u9, u10, b11⟩ : Treader) x16 hx16), trivial⟩ ?_
    refine rgs0 (⟨[(2, (.ptr 2 0))], [(2, .row 25 [(Q73 x2), (.int .i64 x3.1), (AV.list 5 eTBlock Q76 l8 (.own 5302))]), (7, .tok 1 3 x2.1.length), (5302, .tok 5 47 l8.length), (30000, .row 69 (Q78 x16))]⟩ : St) hn mix (hand_in hΓ rfl) (by kernel_rfl) ?_
    refine awp_ret ?_
    obtain rfl := Option.some.inj h
    exact ⟨.inl rfl, [(30000, 30000)], by kernel_rfl⟩

noncomputable def m_code_Size_L1 (a_f : TFunc) : (Int × Int) → Option (LR (Int × Int) Int) :=
  fun ((i1, i2) : (Int × Int)) => (bif (decide ((i2 : Int) < (a_f.Blocks.length : Int))) then (chk (InB i2 a_f.Blocks.length) (some (.next ((w64 (i1 + (w64 ((((a_f.Blocks.getD (i2).toNat (default : TBlock)).Phis).length : Int) + (((a_f.Blocks.getD (i2).toNat (default : TBlock)).Ops).length : Int))))), (w64 (i2 + (1 : Int))))))) else (some (.done i1)))
noncomputable def Q84 (a_f : TFunc) : AV := (.int .i64 (a_f.Blocks.length : Int))
noncomputable def Q83 (a_f : TFunc) (i2 : Int) := (a_f.Blocks.getD (i2).toNat (default : TBlock))
noncomputable def Q82 (a_f : TFunc) : AV := (AV.list 5 eTBlock (default : TBlock) a_f.Blocks .none)
noncomputable def m_code_Size (a_f : TFunc) : Option Int :=
  ((loopO (S := (Int × Int)) (X := Int) (m_code_Size_L1 a_f) ((a_f.Blocks.length : Int), (0 : Int))).bind (fun x5 => ((some x5))))
theorem ok_code_Size (a_f : TFunc) (r : Int) (h : m_code_Size a_f = some r) : Spec Tryz.prog 27 [(.agg (eTFunc a_f))] [] (.int .i64 r) [] := by
  refine spec_of_awp (fn := Tryz.f27) Tryz.func27 rfl rfl (by kernel_rfl) (fun Γ hn hΓ => ?_)
  have hn : Γ.n = 27 := hn
  unfold m_code_Size at h
  refine rgs0 (⟨[(1, (.ptr 1 0))], [(1, .row 25 [(AV.list 1 eI64 (0 : Int) a_f.Params .none), (.int .i64 a_f.Ret), (Q82 a_f)])]⟩ : St) hn mix (no_hand hΓ) (by kernel_rfl) ?_
  refine rgs0 (⟨[(1, (.ptr 1 0)), (3, (Q84 a_f))], [(1, .row 25 [(AV.list 1 eI64 (0 : Int) a_f.Params .none), (.int .i64 a_f.Ret), (Q82 a_f)])]⟩ : St) hn mix (no_hand hΓ) (by kernel_rfl) ?_
  refine awp_seq ?_
  refine rgs0 (⟨[(3, (Q84 a_f)), (10, (Q82 a_f)), (11, (Q84 a_f)), (12, (.int .i64 (0 : Int)))], []⟩ : St) hn mix (no_hand hΓ) (by kernel_rfl) ?_
  refine awp_block ?_
  refine awp_le (st' := (fun ((i1, i2) : (Int × Int)) => (⟨[(3, (.int .i64 i1)), (10, (Q82 a_f)), (11, (Q84 a_f)), (12, (.int .i64 i2))], []⟩ : St)) ((a_f.Blocks.length : Int), (0 : Int))) (Le.refl _ _) ?_
  obtain ⟨x5, hx5, h⟩ := bind_some h
  refine awp_loop (fun ((i1, i2) : (Int × Int)) => (⟨[(3, (.int .i64 i1)), (10, (Q82 a_f)), (11, (Q84 a_f)), (12, (.int .i64 i2))], []⟩ : St)) _ (fun (i3 : Int) (e : Exit) (st : St) => e = (.exit 0) ∧ Le Γ st (⟨[(3, (.int .i64 i3))], []⟩ : St)) ?_ hx5 ?_
  · rintro ⟨i1, i2⟩ y h
    unfold m_code_Size_L1 at h
    refine rgs0 (⟨[(3, (.int .i64 i1)), (10, (Q82 a_f)), (11, (Q84 a_f)), (12, (.int .i64 i2)), (13, (.bool (decide ((i2 : Int) < (a_f.Blocks.length : Int)))))], []⟩ : St) hn mix (no_hand hΓ) (by kernel_rfl) ?_
    refine awp_seq ?_
    refine awp_cond (decide ((i2 : Int) < (a_f.Blocks.length : Int))) (by kernel_rfl) (fun hb => ?_) (fun hb => ?_)
    · replace h := cond_t hb h
      clear hb
      refine awp_skip ?_
      refine then_normal ?_
      refine awp_seq ?_
      refine awp_block ?_
      obtain ⟨hc4, h⟩ := chk_some h
      refine rgs [] [] (⟨[(3, (.int .i64 i1)), (5, (.ptr 5 0)), (10, (Q82 a_f)), (11, (Q84 a_f)), (12, (.int .i64 i2))], [(5, .row 47 [(AV.list 4 eTPhi (default : TPhi) (Q83 a_f i2).Phis .none), (AV.list 6 eTOp (default : TOp) (Q83 a_f i2).Ops .none), (.int .i64 (Q83 a_f i2).End.Kind), (.int .i64 (Q83 a_f i2).End.Arg), (AV.list 1 eI64 (0 : Int) (Q83 a_f i2).End.To .none)])]⟩ : St) [(InB i2 a_f.Blocks.length)] hn mix (no_hand hΓ) (by kernel_rfl) ⟨hc4, trivial⟩ ?_
      refine rg0 (⟨[(3, (.int .i64 (w64 (i1 + (w64 ((((Q83 a_f i2).Phis).length : Int) + (((Q83 a_f i2).Ops).length : Int))))))), (10, (Q82 a_f)), (11, (Q84 a_f)), (12, (.int .i64 i2))], []⟩ : St) hn mix (no_hand hΓ) (by kernel_rfl) ?_
      refine block_normal ?_
      refine then_normal ?_
      refine rg0 (⟨[(3, (.int .i64 (w64 (i1 + (w64 ((((Q83 a_f i2).Phis).length : Int) + (((Q83 a_f i2).Ops).length : Int))))))), (10, (Q82 a_f)), (11, (Q84 a_f)), (12, (.int .i64 (w64 (i2 + (1 : Int)))))], []⟩ : St) hn mix (no_hand hΓ) (by kernel_rfl) ?_
      obtain rfl := Option.some.inj h
      exact ⟨rfl, Le.refl _ _⟩
    · replace h := cond_f hb h
      clear hb
      refine awp_exit ?_
      refine then_exit ?_
      obtain rfl := Option.some.inj h
      exact ⟨(by intro hh; cases hh), rfl, le_restrict_eq [3] [] (by kernel_rfl) (no_hand hΓ)⟩
  · clear hx5
    rintro e st' ⟨rfl, hl6⟩
    refine block_here ?_
    refine then_normal ?_
    refine awp_le hl6 ?_
    refine rgs0 (⟨[(2, (.int .i64 x5))], []⟩ : St) hn mix (no_hand hΓ) (by kernel_rfl) ?_
    refine awp_ret ?_
    obtain rfl := Option.some.inj h
    exact ⟨.inl rfl, [], by kernel_rfl⟩

noncomputable def m_code_numbersFit_L1 (a_list : List (Int)) : Int → Option (LR Int (Unit ⊕ Bool)) :=
  fun (i1 : Int) => (bif (decide ((i1 : Int) < (a_list.length : Int))) then (chk (InB i1 a_list.length) (bif (bif (decide (((a_list.getD (i1).toNat (0 : Int)) : Int) < (0 : Int))) then true else (decide (((2147483647 : Int) : Int) < (a_list.getD (i1).toNat (0 : Int))))) then (some (.done (.inr false))) else (some (.next (w64 (i1 + (1 : Int))))))) else (some (.done (.inl ()))))
noncomputable def Q87 (a_list : List (Int)) : AV := (.int .i64 (a_list.length : Int))
noncomputable def Q86 (a_list : List (Int)) : AV := (AV.list 1 eI64 (0 : Int) a_list .none)
noncomputable def Q85 (a_list : List (Int)) (i1 : Int) := (decide (((a_list.getD (i1).toNat (0 : Int)) : Int) < (0 : Int)))
noncomputable def m_code_numbersFit (a_list : List (Int)) : Option Bool :=
  ((loopO (S := Int) (X := (Unit ⊕ Bool)) (m_code_numbersFit_L1 a_list) (0 : Int)).bind (fun x3 => (match x3 with | (.inl _) => (some true) | (.inr r5) => (some r5))))
theorem ok_code_numbersFit (a_list : List (Int)) (r : Bool) (h : m_code_numbersFit a_list = some r) : Spec Tryz.prog 31 [(AV.list 1 eI64 (0 : Int) a_list .none)] [] (.bool r) [] := by
  refine spec_of_awp (fn := Tryz.f31) Tryz.func31 rfl rfl (by kernel_rfl) (fun Γ hn hΓ => ?_)
  have hn : Γ.n = 18 := hn
  unfold m_code_numbersFit at h
  refine rgs0 (⟨[(0, (Q86 a_list))], []⟩ : St) hn mix (no_hand hΓ) (by kernel_rfl) ?_
  refine awp_seq ?_
  refine rgs0 (⟨[(5, (Q86 a_list)), (6, (Q87 a_list)), (7, (.int .i64 (0 : Int)))], []⟩ : St) hn mix (no_hand hΓ) (by kernel_rfl) ?_
  refine awp_block ?_
  refine awp_le (st' := (fun (i1 : Int) => (⟨[(5, (Q86 a_list)), (6, (Q87 a_list)), (7, (.int .i64 i1))], []⟩ : St)) (0 : Int)) (Le.refl _ _) ?_
  obtain ⟨x3, hx3, h⟩ := bind_some h
  refine awp_loop (fun (i1 : Int) => (⟨[(5, (Q86 a_list)), (6, (Q87 a_list)), (7, (.int .i64 i1))], []⟩ : St)) _ (fun (x_ : (Unit ⊕ Bool)) (e : Exit) (st : St) => match x_ with | (.inl _) => e = (.exit 0) ∧ Le Γ st (⟨[], []⟩ : St) | (.inr r_) => e = .ret ∧ retK Tryz.prog Tryz.f31.results.toList [] (.bool r_) [] e st) ?_ hx3 ?_
  · intro i1 y h
    unfold m_code_numbersFit_L1 at h
    refine rgs0 (⟨[(5, (Q86 a_list)), (6, (Q87 a_list)), (7, (.int .i64 i1)), (8, (.bool (decide ((i1 : Int) < (a_list.length : Int)))))], []⟩ : St) hn mix (no_hand hΓ) (by kernel_rfl) ?_
    refine awp_seq ?_
    refine awp_cond (decide ((i1 : Int) < (a_list.length : Int))) (by kernel_rfl) (fun hb => ?_) (fun hb => ?_)
    · replace h := cond_t hb h
      clear hb
      refine awp_skip ?_
      refine then_normal ?_
      refine awp_seq ?_
      refine awp_block ?_
      obtain ⟨hc2, h⟩ := chk_some h
      refine rgs [] [] (⟨[(4, (.int .i64 (a_list.getD (i1).toNat (0 : Int)))), (5, (Q86 a_list)), (6, (Q87 a_list)), (7, (.int .i64 i1))], []⟩ : St) [(InB i1 a_list.length)] hn mix (no_hand hΓ) (by kernel_rfl) ⟨hc2, trivial⟩ ?_
      refine rgs [] [] (⟨[(5, (Q86 a_list)), (6, (Q87 a_list)), (7, (.int .i64 i1)), (16, (.bool (bif (Q85 a_list i1) then true else (decide (((2147483647 : Int) : Int) < (a_list.getD (i1).toNat (0 : Int)))))))], []⟩ : St) [(((Q85 a_list i1) == false) = true → ((Q85 a_list i1) == false) = true), ((Q85 a_list i1) = false → ((Q85 a_list i1) == false) = true)] hn mix (no_hand hΓ) (by kernel_rfl) ⟨(fun hg => hg), gF, trivial⟩ ?_
      refine awp_cond (bif (Q85 a_list i1) then true else (decide (((2147483647 : Int) : Int) < (a_list.getD (i1).toNat (0 : Int))))) (by kernel_rfl) (fun hb => ?_) (fun hb => ?_)
      · replace h := cond_t hb h
        clear hb
        refine rgs0 (⟨[(2, (.bool false))], []⟩ : St) hn mix (no_hand hΓ) (by kernel_rfl) ?_
        refine awp_ret ?_
        refine block_ret ?_
        refine then_ret ?_
        obtain rfl := Option.some.inj h
        exact ⟨(by intro hh; cases hh), rfl, ⟨.inl rfl, [], by kernel_rfl⟩⟩
      · replace h := cond_f hb h
        clear hb
        refine awp_skip ?_
        refine block_normal ?_
        refine then_normal ?_
        refine rg0 (⟨[(5, (Q86 a_list)), (6, (Q87 a_list)), (7, (.int .i64 (w64 (i1 + (1 : Int)))))], []⟩ : St) hn mix (no_hand hΓ) (by kernel_rfl) ?_
        obtain rfl := Option.some.inj h
        exact ⟨rfl, Le.refl _ _⟩
    · replace h := cond_f hb h
      clear hb
      refine awp_exit ?_
      refine then_exit ?_
      obtain rfl := Option.some.inj h
      exact ⟨(by intro hh; cases hh), rfl, le_restrict_eq [] [] (by kernel_rfl) (no_hand hΓ)⟩
  · clear hx3
    rcases x3 with _ | r5
    · rintro e st' ⟨rfl, hl4⟩
      refine block_here ?_
      refine then_normal ?_
      refine awp_le hl4 ?_
      refine rgs0 (⟨[(2, (.bool true))], []⟩ : St) hn mix (no_hand hΓ) (by kernel_rfl) ?_
      refine awp_ret ?_
      obtain rfl := Option.some.inj h
      exact ⟨.inl rfl, [], by kernel_rfl⟩
    · rintro e st' ⟨rfl, hk⟩
      refine block_ret ?_
      refine then_ret ?_
      obtain rfl := Option.some.inj h
      exact hk

noncomputable def Q88 (a_list : List (Int)) := (decide (((a_list.length : Int) : Int) ≤ (64 : Int)))
noncomputable def m_code_listFits (a_list : List (Int)) : Option Bool :=
  ((bif ((decide (((a_list.length : Int) : Int) ≤ (64 : Int))) == true) then m_code_numbersFit a_list else some false).bind fun x1 => (some (bif (decide (((a_list.length : Int) : Int) ≤ (64 : Int))) then x1 else false)))
theorem ok_code_listFits (a_list : List (Int)) (r : Bool) (h : m_code_listFits a_list = some r) : Spec Tryz.prog 78 [(AV.list 1 eI64 (0 : Int) a_list .none)] [] (.bool r) [] := by
  refine spec_of_awp (fn := Tryz.f78) Tryz.func78 rfl rfl (by kernel_rfl) (fun Γ hn hΓ => ?_)
  have hn : Γ.n = 10 := hn
  unfold m_code_listFits at h
  refine rgs0 (⟨[(0, (AV.list 1 eI64 (0 : Int) a_list .none))], []⟩ : St) hn mix (no_hand hΓ) (by kernel_rfl) ?_
  obtain ⟨x1, hx1, h⟩ := bind_some h
  refine rgs [⟨[], [], (.bool x1), []⟩] [] (⟨[(2, (.bool (bif (Q88 a_list) then x1 else false)))], []⟩ : St) [(((Q88 a_list) == true) = true → ((Q88 a_list) == true) = true), (((Q88 a_list) == true) = true → (Spec Tryz.prog 31 [(AV.list 1 eI64 (0 : Int) a_list .none)] [] (.bool x1) [])), ((Q88 a_list) = true → ((Q88 a_list) == true) = true)] hn mix (no_hand hΓ) (by kernel_rfl) ⟨(fun hg => hg), (fun hg => (ok_code_numbersFit a_list x1 (cond_t hg hx1))), gT, trivial⟩ ?_
  refine awp_ret ?_
  obtain rfl := Option.some.inj h
  exact ⟨.inl rfl, [], by kernel_rfl⟩

noncomputable def Q89 (x1 : Bool) (x2 : Bool) := ((bif x1 then x2 else false) == true)
noncomputable def m_code_phiFits (a_p : TPhi) : Option Bool :=
  ((m_code_numbersFit ([a_p.Bits, a_p.Dst] : List (Int))).bind fun x1 => ((bif (x1 == true) then m_code_listFits a_p.From else some false).bind fun x2 => ((bif ((bif x1 then x2 else false) == true) then m_code_listFits a_p.Args else some false).bind fun x3 => (some (bif (bif x1 then x2 else false) then x3 else false)))))
theorem ok_code_phiFits (a_p : TPhi) (r : Bool) (h : m_code_phiFits a_p = some r) : Spec Tryz.prog 55 [(.agg (eTPhi a_p))] [] (.bool r) [] := by
  refine spec_of_awp (fn := Tryz.f55) Tryz.func55 rfl rfl (by kernel_rfl) (fun Γ hn hΓ => ?_)
  have hn : Γ.n = 19 := hn
  unfold m_code_phiFits at h
  refine rgs0 (⟨[(1, (.ptr 1 0))], [(1, .row 49 [(.int .i64 a_p.Bits), (.int .i64 a_p.Dst), (AV.list 1 eI64 (0 : Int) a_p.From .none), (AV.list 1 eI64 (0 : Int) a_p.Args .none)])]⟩ : St) hn mix (no_hand hΓ) (by kernel_rfl) ?_
  obtain ⟨x1, hx1, h⟩ := bind_some h
  obtain ⟨x2, hx2, h⟩ := bind_some h
  obtain ⟨x3, hx3, h⟩ := bind_some h
  refine rgs [⟨[], [], (.bool x1), []⟩, ⟨[], [], (.bool x2), []⟩, ⟨[], [], (.bool x3), []⟩] [(7, (AV.list 1 eI64 (0 : Int) ([a_p.Bits, a_p.Dst] : List (Int)) .exact))] (⟨[(2, (.bool (bif (bif x1 then x2 else false) then x3 else false)))], []⟩ : St) [(AVle (.slice 1 2 (fun i => ([[(.int .i64 a_p.Bits)], [(.int .i64 a_p.Dst)]] : List (List AV)).getD i []) .exact) (AV.list 1 eI64 (0 : Int) ([a_p.Bits, a_p.Dst] : List (Int)) .exact)), (Spec Tryz.prog 31 [(AV.list 1 eI64 (0 : Int) ([a_p.Bits, a_p.Dst] : List (Int)) .none)] [] (.bool x1) []), ((x1 == true) = true → (x1 == true) = true), ((x1 == true) = true → (x1 == true) = true), ((x1 == true) = true → (Spec Tryz.prog 78 [(AV.list 1 eI64 (0 : Int) a_p.From .none)] [] (.bool x2) [])), (x1 = true → (x1 == true) = true), ((Q89 x1 x2) = true → (Q89 x1 x2) = true), ((Q89 x1 x2) = true → (Q89 x1 x2) = true), ((Q89 x1 x2) = true → (Spec Tryz.prog 78 [(AV.list 1 eI64 (0 : Int) a_p.Args .none)] [] (.bool x3) [])), ((bif x1 then x2 else false) = true → (Q89 x1 x2) = true)] hn mix (no_hand hΓ) (by kernel_rfl) ⟨(av_lit rfl (fun i hi => map_get (e := eI64) (d := (0 : Int)) ([a_p.Bits, a_p.Dst] : List (Int)) i hi)), (ok_code_numbersFit ([a_p.Bits, a_p.Dst] : List (Int)) x1 hx1), (fun hg => hg), (fun hg => hg), (fun hg => (ok_code_listFits a_p.From x2 (cond_t hg hx2))), gT, (fun hg => hg), (fun hg => hg), (fun hg => (ok_code_listFits a_p.Args x3 (cond_t hg hx3))), gT, trivial⟩ ?_
  refine awp_ret ?_
  obtain rfl := Option.some.inj h
  exact ⟨.inl rfl, [], by kernel_rfl⟩

noncomputable def m_code_allFit_api_Phi_L1 (a_list : List (TPhi)) : Int → Option (LR Int (Unit ⊕ Bool)) :=
  fun (i1 : Int) => (bif (decide ((i1 : Int) < (a_list.length : Int))) then (chk (InB i1 a_list.length) ((m_code_phiFits (a_list.getD (i1).toNat (default : TPhi))).bind fun x3 => (bif (!x3) then (some (.done (.inr false))) else (some (.next (w64 (i1 + (1 : Int)))))))) else (some (.done (.inl ()))))
noncomputable def Q92 (a_list : List (TPhi)) : AV := (.int .i64 (a_list.length : Int))
noncomputable def Q91 (a_list : List (TPhi)) (i1 : Int) := (a_list.getD (i1).toNat (default : TPhi))
noncomputable def Q90 (a_list : List (TPhi)) : AV := (AV.list 4 eTPhi (default : TPhi) a_list .none)
noncomputable def m_code_allFit_api_Phi (a_list : List (TPhi)) : Option Bool :=
  ((loopO (S := Int) (X := (Unit ⊕ Bool)) (m_code_allFit_api_Phi_L1 a_list) (0 : Int)).bind (fun x4 => (match x4 with | (.inl _) => (some true) | (.inr r6) => (some r6))))
theorem ok_code_allFit_api_Phi (a_list : List (TPhi)) (r : Bool) (h : m_code_allFit_api_Phi a_list = some r) : Spec Tryz.prog 54 [(AV.list 4 eTPhi (default : TPhi) a_list .none), (.clo 55 [] [])] [] (.bool r) [] := by
  refine spec_of_awp (fn := Tryz.f54) Tryz.func54 rfl rfl (by kernel_rfl) (fun Γ hn hΓ => ?_)
  have hn : Γ.n = 18 := hn
  unfold m_code_allFit_api_Phi at h
  refine rgs0 (⟨[(0, (Q90 a_list)), (1, (.clo 55 [] []))], []⟩ : St) hn mix (no_hand hΓ) (by kernel_rfl) ?_
  refine awp_seq ?_
  refine rgs0 (⟨[(1, (.clo 55 [] [])), (7, (Q90 a_list)), (8, (Q92 a_list)), (9, (.int .i64 (0 : Int)))], []⟩ : St) hn mix (no_hand hΓ) (by kernel_rfl) ?_
  refine awp_block ?_
  refine awp_le (st' := (fun (i1 : Int) => (⟨[(1, (.clo 55 [] [])), (7, (Q90 a_list)), (8, (Q92 a_list)), (9, (.int .i64 i1))], []⟩ : St)) (0 : Int)) (Le.refl _ _) ?_
  obtain ⟨x4, hx4, h⟩ := bind_some h
  refine awp_loop (fun (i1 : Int) => (⟨[(1, (.clo 55 [] [])), (7, (Q90 a_list)), (8, (Q92 a_list)), (9, (.int .i64 i1))], []⟩ : St)) _ (fun (x_ : (Unit ⊕ Bool)) (e : Exit) (st : St) => match x_ with | (.inl _) => e = (.exit 0) ∧ Le Γ st (⟨[], []⟩ : St) | (.inr r_) => e = .ret ∧ retK Tryz.prog Tryz.f54.results.toList [] (.bool r_) [] e st) ?_ hx4 ?_
  · intro i1 y h
    unfold m_code_allFit_api_Phi_L1 at h
    refine rgs0 (⟨[(1, (.clo 55 [] [])), (7, (Q90 a_list)), (8, (Q92 a_list)), (9, (.int .i64 i1)), (10, (.bool (decide ((i1 : Int) < (a_list.length : Int)))))], []⟩ : St) hn mix (no_hand hΓ) (by kernel_rfl) ?_
    refine awp_seq ?_
    refine awp_cond (decide ((i1 : Int) < (a_list.length : Int))) (by kernel_rfl) (fun hb => ?_) (fun hb => ?_)
    · replace h := cond_t hb h
      clear hb
      refine awp_skip ?_
      refine then_normal ?_
      refine awp_seq ?_
      refine awp_block ?_
      obtain ⟨hc2, h⟩ := chk_some h
      refine rgs [] [] (⟨[(1, (.clo 55 [] [])), (6, (.ptr 6 0)), (7, (Q90 a_list)), (8, (Q92 a_list)), (9, (.int .i64 i1))], [(6, .row 49 [(.int .i64 (Q91 a_list i1).Bits), (.int .i64 (Q91 a_list i1).Dst), (AV.list 1 eI64 (0 : Int) (Q91 a_list i1).From .none), (AV.list 1 eI64 (0 : Int) (Q91 a_list i1).Args .none)])]⟩ : St) [(InB i1 a_list.length)] hn mix (no_hand hΓ) (by kernel_rfl) ⟨hc2, trivial⟩ ?_
      obtain ⟨x3, hx3, h⟩ := bind_some h
      refine rgs [⟨[], [], (.bool x3), []⟩] [] (⟨[(1, (.clo 55 [] [])), (7, (Q90 a_list)), (8, (Q92 a_list)), (9, (.int .i64 i1)), (16, (.bool (!x3)))], []⟩ : St) [(Spec Tryz.prog 55 [(.agg (eTPhi (Q91 a_list i1)))] [] (.bool x3) [])] hn mix (no_hand hΓ) (by kernel_rfl) ⟨(ok_code_phiFits (Q91 a_list i1) x3 hx3), trivial⟩ ?_
      refine awp_cond (!x3) (by kernel_rfl) (fun hb => ?_) (fun hb => ?_)
      · replace h := cond_t hb h
        clear hb
        refine rgs0 (⟨[(4, (.bool false))], []⟩ : St) hn mix (no_hand hΓ) (by kernel_rfl) ?_
        refine awp_ret ?_
        refine block_ret ?_
        refine then_ret ?_
        obtain rfl := Option.some.inj h
        exact ⟨(by intro hh; cases hh), rfl, ⟨.inl rfl, [], by kernel_rfl⟩⟩
      · replace h := cond_f hb h
        clear hb
        refine awp_skip ?_
        refine block_normal ?_
        refine then_normal ?_
        refine rg0 (⟨[(1, (.clo 55 [] [])), (7, (Q90 a_list)), (8, (Q92 a_list)), (9, (.int .i64 (w64 (i1 + (1 : Int)))))], []⟩ : St) hn mix (no_hand hΓ) (by kernel_rfl) ?_
        obtain rfl := Option.some.inj h
        exact ⟨rfl, Le.refl _ _⟩
    · replace h := cond_f hb h
      clear hb
      refine awp_exit ?_
      refine then_exit ?_
      obtain rfl := Option.some.inj h
      exact ⟨(by intro hh; cases hh), rfl, le_restrict_eq [] [] (by kernel_rfl) (no_hand hΓ)⟩
  · clear hx4
    rcases x4 with _ | r6
    · rintro e st' ⟨rfl, hl5⟩
      refine block_here ?_
      refine then_normal ?_
      refine awp_le hl5 ?_
      refine rgs0 (⟨[(4, (.bool true))], []⟩ : St) hn mix (no_hand hΓ) (by kernel_rfl) ?_
      refine awp_ret ?_
      obtain rfl := Option.some.inj h
      exact ⟨.inl rfl, [], by kernel_rfl⟩
    · rintro e st' ⟨rfl, hk⟩
      refine block_ret ?_
      refine then_ret ?_
      obtain rfl := Option.some.inj h
      exact hk

noncomputable def Q93 (a_o : TOp) := ([a_o.Kind, a_o.Bits, a_o.Lanes, a_o.Dst] : List (Int))
noncomputable def m_code_opFits (a_o : TOp) : Option Bool :=
  ((m_code_numbersFit ([a_o.Kind, a_o.Bits, a_o.Lanes, a_o.Dst] : List (Int))).bind fun x1 => ((bif (x1 == true) then m_code_listFits a_o.Args else some false).bind fun x2 => (some (bif x1 then x2 else false))))
theorem ok_code_opFits (a_o : TOp) (r : Bool) (h : m_code_opFits a_o = some r) : Spec Tryz.prog 57 [(.agg (eTOp a_o))] [] (.bool r) [] := by
  refine spec_of_awp (fn := Tryz.f57) Tryz.func57 rfl rfl (by kernel_rfl) (fun Γ hn hΓ => ?_)
  have hn : Γ.n = 18 := hn
  unfold m_code_opFits at h
  refine rgs0 (⟨[(1, (.ptr 1 0))], [(1, .row 41 [(.int .i64 a_o.Kind), (.int .i64 a_o.Bits), (.int .i64 a_o.Lanes), (.int .i64 a_o.Dst), (AV.list 1 eI64 (0 : Int) a_o.Args .none), (.int .u64 a_o.Imm)])]⟩ : St) hn mix (no_hand hΓ) (by kernel_rfl) ?_
  obtain ⟨x1, hx1, h⟩ := bind_some h
  obtain ⟨x2, hx2, h⟩ := bind_some h
  refine rgs [⟨[], [], (.bool x1), []⟩, ⟨[], [], (.bool x2), []⟩] [(11, (AV.list 1 eI64 (0 : Int) (Q93 a_o) .exact))] (⟨[(2, (.bool (bif x1 then x2 else false)))], []⟩ : St) [(AVle (.slice 1 4 (fun i => ([[(.int .i64 a_o.Kind)], [(.int .i64 a_o.Bits)], [(.int .i64 a_o.Lanes)], [(.int .i64 a_o.Dst)]] : List (List AV)).getD i []) .exact) (AV.list 1 eI64 (0 : Int) (Q93 a_o) .exact)), (Spec Tryz.prog 31 [(AV.list 1 eI64 (0 : Int) (Q93 a_o) .none)] [] (.bool x1) []), ((x1 == true) = true → (x1 == true) = true), ((x1 == true) = true → (x1 == true) = true), ((x1 == true) = true → (Spec Tryz.prog 78 [(AV.list 1 eI64 (0 : Int) a_o.Args .none)] [] (.bool x2) [])), (x1 = true → (x1 == true) = true)] hn mix (no_hand hΓ) (by kernel_rfl) ⟨(av_lit rfl (fun i hi => map_get (e := eI64) (d := (0 : Int)) (Q93 a_o) i hi)), (ok_code_numbersFit (Q93 a_o) x1 hx1), (fun hg => hg), (fun hg => hg), (fun hg => (ok_code_listFits a_o.Args x2 (cond_t hg hx2))), gT, trivial⟩ ?_
  refine awp_ret ?_
  obtain rfl := Option.some.inj h
  exact ⟨.inl rfl, [], by kernel_rfl⟩

noncomputable def m_code_allFit_api_Op_L1 (a_list : List (TOp)) : Int → Option (LR Int (Unit ⊕ Bool)) :=
  fun (i1 : Int) => (bif (decide ((i1 : Int) < (a_list.length : Int))) then (chk (InB i1 a_list.length) ((m_code_opFits (a_list.getD (i1).toNat (default : TOp))).bind fun x3 => (bif (!x3) then (some (.done (.inr false))) else (some (.next (w64 (i1 + (1 : Int)))))))) else (some (.done (.inl ()))))
noncomputable def Q96 (a_list : List (TOp)) : AV := (.int .i64 (a_list.length : Int))
noncomputable def Q95 (a_list : List (TOp)) (i1 : Int) := (a_list.getD (i1).toNat (default : TOp))
noncomputable def Q94 (a_list : List (TOp)) : AV := (AV.list 6 eTOp (default : TOp) a_list .none)
noncomputable def m_code_allFit_api_Op (a_list : List (TOp)) : Option Bool :=
  ((loopO (S := Int) (X := (Unit ⊕ Bool)) (m_code_allFit_api_Op_L1 a_list) (0 : Int)).bind (fun x4 => (match x4 with | (.inl _) => (some true) | (.inr r6) => (some r6))))
theorem ok_code_allFit_api_Op (a_list : List (TOp)) (r : Bool) (h : m_code_allFit_api_Op a_list = some r) : Spec Tryz.prog 56 [(AV.list 6 eTOp (default : TOp) a_list .none), (.clo 57 [] [])] [] (.bool r) [] := by
  refine spec_of_awp (fn := Tryz.f56) Tryz.func56 rfl rfl (by kernel_rfl) (fun Γ hn hΓ => ?_)
  have hn : Γ.n = 18 := hn
  unfold m_code_allFit_api_Op at h
  refine rgs0 (⟨[(0, (Q94 a_list)), (1, (.clo 57 [] []))], []⟩ : St) hn mix (no_hand hΓ) (by kernel_rfl) ?_
  refine awp_seq ?_
  refine rgs0 (⟨[(1, (.clo 57 [] [])), (7, (Q94 a_list)), (8, (Q96 a_list)), (9, (.int .i64 (0 : Int)))], []⟩ : St) hn mix (no_hand hΓ) (by kernel_rfl) ?_
  refine awp_block ?_
  refine awp_le (st' := (fun (i1 : Int) => (⟨[(1, (.clo 57 [] [])), (7, (Q94 a_list)), (8, (Q96 a_list)), (9, (.int .i64 i1))], []⟩ : St)) (0 : Int)) (Le.refl _ _) ?_
  obtain ⟨x4, hx4, h⟩ := bind_some h
  refine awp_loop (fun (i1 : Int) => (⟨[(1, (.clo 57 [] [])), (7, (Q94 a_list)), (8, (Q96 a_list)), (9, (.int .i64 i1))], []⟩ : St)) _ (fun (x_ : (Unit ⊕ Bool)) (e : Exit) (st : St) => match x_ with | (.inl _) => e = (.exit 0) ∧ Le Γ st (⟨[], []⟩ : St) | (.inr r_) => e = .ret ∧ retK Tryz.prog Tryz.f56.results.toList [] (.bool r_) [] e st) ?_ hx4 ?_
  · intro i1 y h
    unfold m_code_allFit_api_Op_L1 at h
    refine rgs0 (⟨[(1, (.clo 57 [] [])), (7, (Q94 a_list)), (8, (Q96 a_list)), (9, (.int .i64 i1)), (10, (.bool (decide ((i1 : Int) < (a_list.length : Int)))))], []⟩ : St) hn mix (no_hand hΓ) (by kernel_rfl) ?_
    refine awp_seq ?_
    refine awp_cond (decide ((i1 : Int) < (a_list.length : Int))) (by kernel_rfl) (fun hb => ?_) (fun hb => ?_)
    · replace h := cond_t hb h
      clear hb
      refine awp_skip ?_
      refine then_normal ?_
      refine awp_seq ?_
      refine awp_block ?_
      obtain ⟨hc2, h⟩ := chk_some h
      refine rgs [] [] (⟨[(1, (.clo 57 [] [])), (6, (.ptr 6 0)), (7, (Q94 a_list)), (8, (Q96 a_list)), (9, (.int .i64 i1))], [(6, .row 41 [(.int .i64 (Q95 a_list i1).Kind), (.int .i64 (Q95 a_list i1).Bits), (.int .i64 (Q95 a_list i1).Lanes), (.int .i64 (Q95 a_list i1).Dst), (AV.list 1 eI64 (0 : Int) (Q95 a_list i1).Args .none), (.int .u64 (Q95 a_list i1).Imm)])]⟩ : St) [(InB i1 a_list.length)] hn mix (no_hand hΓ) (by kernel_rfl) ⟨hc2, trivial⟩ ?_
      obtain ⟨x3, hx3, h⟩ := bind_some h
      refine rgs [⟨[], [], (.bool x3), []⟩] [] (⟨[(1, (.clo 57 [] [])), (7, (Q94 a_list)), (8, (Q96 a_list)), (9, (.int .i64 i1)), (16, (.bool (!x3)))], []⟩ : St) [(Spec Tryz.prog 57 [(.agg (eTOp (Q95 a_list i1)))] [] (.bool x3) [])] hn mix (no_hand hΓ) (by kernel_rfl) ⟨(ok_code_opFits (Q95 a_list i1) x3 hx3), trivial⟩ ?_
      refine awp_cond (!x3) (by kernel_rfl) (fun hb => ?_) (fun hb => ?_)
      · replace h := cond_t hb h
        clear hb
        refine rgs0 (⟨[(4, (.bool false))], []⟩ : St) hn mix (no_hand hΓ) (by kernel_rfl) ?_
        refine awp_ret ?_
        refine block_ret ?_
        refine then_ret ?_
        obtain rfl := Option.some.inj h
        exact ⟨(by intro hh; cases hh), rfl, ⟨.inl rfl, [], by kernel_rfl⟩⟩
      · replace h := cond_f hb h
        clear hb
        refine awp_skip ?_
        refine block_normal ?_
        refine then_normal ?_
        refine rg0 (⟨[(1, (.clo 57 [] [])), (7, (Q94 a_list)), (8, (Q96 a_list)), (9, (.int .i64 (w64 (i1 + (1 : Int)))))], []⟩ : St) hn mix (no_hand hΓ) (by kernel_rfl) ?_
        obtain rfl := Option.some.inj h
        exact ⟨rfl, Le.refl _ _⟩
    · replace h := cond_f hb h
      clear hb
      refine awp_exit ?_
      refine then_exit ?_
      obtain rfl := Option.some.inj h
      exact ⟨(by intro hh; cases hh), rfl, le_restrict_eq [] [] (by kernel_rfl) (no_hand hΓ)⟩
  · clear hx4
    rcases x4 with _ | r6
    · rintro e st' ⟨rfl, hl5⟩
      refine block_here ?_
      refine then_normal ?_
      refine awp_le hl5 ?_
      refine rgs0 (⟨[(4, (.bool true))], []⟩ : St) hn mix (no_hand hΓ) (by kernel_rfl) ?_
      refine awp_ret ?_
      obtain rfl := Option.some.inj h
      exact ⟨.inl rfl, [], by kernel_rfl⟩
    · rintro e st' ⟨rfl, hk⟩
      refine block_ret ?_
      refine then_ret ?_
      obtain rfl := Option.some.inj h
      exact hk

noncomputable def m_code_endFits (a_e : TEnd) : Option Bool :=
  ((m_code_numbersFit ([a_e.Kind, a_e.Arg] : List (Int))).bind fun x1 => ((bif (x1 == true) then m_code_listFits a_e.To else some false).bind fun x2 => (some (bif x1 then x2 else false))))
theorem ok_code_endFits (a_e : TEnd) (r : Bool) (h : m_code_endFits a_e = some r) : Spec Tryz.prog 58 [(.agg (eTEnd a_e))] [] (.bool r) [] := by
  refine spec_of_awp (fn := Tryz.f58) Tryz.func58 rfl rfl (by kernel_rfl) (fun Γ hn hΓ => ?_)
  have hn : Γ.n = 14 := hn
  unfold m_code_endFits at h
  refine rgs0 (⟨[(1, (.ptr 1 0))], [(1, .row 45 [(.int .i64 a_e.Kind), (.int .i64 a_e.Arg), (AV.list 1 eI64 (0 : Int) a_e.To .none)])]⟩ : St) hn mix (no_hand hΓ) (by kernel_rfl) ?_
  obtain ⟨x1, hx1, h⟩ := bind_some h
  obtain ⟨x2, hx2, h⟩ := bind_some h
  refine rgs [⟨[], [], (.bool x1), []⟩, ⟨[], [], (.bool x2), []⟩] [(7, (AV.list 1 eI64 (0 : Int) ([a_e.Kind, a_e.Arg] : List (Int)) .exact))] (⟨[(2, (.bool (bif x1 then x2 else false)))], []⟩ : St) [(AVle (.slice 1 2 (fun i => ([[(.int .i64 a_e.Kind)], [(.int .i64 a_e.Arg)]] : List (List AV)).getD i []) .exact) (AV.list 1 eI64 (0 : Int) ([a_e.Kind, a_e.Arg] : List (Int)) .exact)), (Spec Tryz.prog 31 [(AV.list 1 eI64 (0 : Int) ([a_e.Kind, a_e.Arg] : List (Int)) .none)] [] (.bool x1) []), ((x1 == true) = true → (x1 == true) = true), ((x1 == true) = true → (x1 == true) = true), ((x1 == true) = true → (Spec Tryz.prog 78 [(AV.list 1 eI64 (0 : Int) a_e.To .none)] [] (.bool x2) [])), (x1 = true → (x1 == true) = true)] hn mix (no_hand hΓ) (by kernel_rfl) ⟨(av_lit rfl (fun i hi => map_get (e := eI64) (d := (0 : Int)) ([a_e.Kind, a_e.Arg] : List (Int)) i hi)), (ok_code_numbersFit ([a_e.Kind, a_e.Arg] : List (Int)) x1 hx1), (fun hg => hg), (fun hg => hg), (fun hg => (ok_code_listFits a_e.To x2 (cond_t hg hx2))), gT, trivial⟩ ?_
  refine awp_ret ?_
  obtain rfl := Option.some.inj h
  exact ⟨.inl rfl, [], by kernel_rfl⟩

noncomputable def Q97 (x1 : Bool) (x2 : Bool) := ((bif x1 then x2 else false) == true)
noncomputable def m_code_blockFits (a_k : TBlock) : Option Bool :=
  ((m_code_allFit_api_Phi a_k.Phis).bind fun x1 => ((bif (x1 == true) then m_code_allFit_api_Op a_k.Ops else some false).bind fun x2 => ((bif ((bif x1 then x2 else false) == true) then m_code_endFits (⟨a_k.End.Kind, a_k.End.Arg, a_k.End.To⟩ : TEnd) else some false).bind fun x3 => (some (bif (bif x1 then x2 else false) then x3 else false)))))
theorem ok_code_blockFits (a_k : TBlock) (r : Bool) (h : m_code_blockFits a_k = some r) : Spec Tryz.prog 33 [(.agg (eTBlock a_k))] [] (.bool r) [] := by
  refine spec_of_awp (fn := Tryz.f33) Tryz.func33 rfl rfl (by kernel_rfl) (fun Γ hn hΓ => ?_)
  have hn : Γ.n = 16 := hn
  unfold m_code_blockFits at h
  refine rgs0 (⟨[(1, (.ptr 1 0))], [(1, .row 47 [(AV.list 4 eTPhi (default : TPhi) a_k.Phis .none), (AV.list 6 eTOp (default : TOp) a_k.Ops .none), (.int .i64 a_k.End.Kind), (.int .i64 a_k.End.Arg), (AV.list 1 eI64 (0 : Int) a_k.End.To .none)])]⟩ : St) hn mix (no_hand hΓ) (by kernel_rfl) ?_
  obtain ⟨x1, hx1, h⟩ := bind_some h
  obtain ⟨x2, hx2, h⟩ := bind_some h
  obtain ⟨x3, hx3, h⟩ := bind_some h
  refine rgs [⟨[], [], (.bool x1), []⟩, ⟨[], [], (.bool x2), []⟩, ⟨[], [], (.bool x3), []⟩] [] (⟨[(2, (.bool (bif (bif x1 then x2 else false) then x3 else false)))], []⟩ : St) [(Spec Tryz.prog 54 [(AV.list 4 eTPhi (default : TPhi) a_k.Phis .none), (.clo 55 [] [])] [] (.bool x1) []), ((x1 == true) = true → (x1 == true) = true), ((x1 == true) = true → (x1 == true) = true), ((x1 == true) = true → (Spec Tryz.prog 56 [(AV.list 6 eTOp (default : TOp) a_k.Ops .none), (.clo 57 [] [])] [] (.bool x2) [])), (x1 = true → (x1 == true) = true), ((Q97 x1 x2) = true → (Q97 x1 x2) = true), ((Q97 x1 x2) = true → (Q97 x1 x2) = true), ((Q97 x1 x2) = true → (Spec Tryz.prog 58 [(.agg [(.int .i64 a_k.End.Kind), (.int .i64 a_k.End.Arg), (AV.list 1 eI64 (0 : Int) a_k.End.To .none)])] [] (.bool x3) [])), ((bif x1 then x2 else false) = true → (Q97 x1 x2) = true)] hn mix (no_hand hΓ) (by kernel_rfl) ⟨(ok_code_allFit_api_Phi a_k.Phis x1 hx1), (fun hg => hg), (fun hg => hg), (fun hg => (ok_code_allFit_api_Op a_k.Ops x2 (cond_t hg hx2))), gT, (fun hg => hg), (fun hg => hg), (fun hg => (ok_code_endFits (⟨a_k.End.Kind, a_k.End.Arg, a_k.End.To⟩ : TEnd) x3 (cond_t hg hx3))), gT, trivial⟩ ?_
  refine awp_ret ?_
  obtain rfl := Option.some.inj h
  exact ⟨.inl rfl, [], by kernel_rfl⟩

noncomputable def m_code_allFit_api_Block_L1 (a_list : List (TBlock)) : Int → Option (LR Int (Unit ⊕ Bool)) :=
  fun (i1 : Int) => (bif (decide ((i1 : Int) < (a_list.length : Int))) then (chk (InB i1 a_list.length) ((m_code_blockFits (a_list.getD (i1).toNat (default : TBlock))).bind fun x3 => (bif (!x3) then (some (.done (.inr false))) else (some (.next (w64 (i1 + (1 : Int)))))))) else (some (.done (.inl ()))))
noncomputable def Q100 (a_list : List (TBlock)) : AV := (.int .i64 (a_list.length : Int))
noncomputable def Q99 (a_list : List (TBlock)) (i1 : Int) := (a_list.getD (i1).toNat (default : TBlock))
noncomputable def Q98 (a_list : List (TBlock)) : AV := (AV.list 5 eTBlock (default : TBlock) a_list .none)
noncomputable def m_code_allFit_api_Block (a_list : List (TBlock)) : Option Bool :=
  ((loopO (S := Int) (X := (Unit ⊕ Bool)) (m_code_allFit_api_Block_L1 a_list) (0 : Int)).bind (fun x4 => (match x4 with | (.inl _) => (some true) | (.inr r6) => (some r6))))
theorem ok_code_allFit_api_Block (a_list : List (TBlock)) (r : Bool) (h : m_code_allFit_api_Block a_list = some r) : Spec Tryz.prog 32 [(AV.list 5 eTBlock (default : TBlock) a_list .none), (.clo 33 [] [])] [] (.bool r) [] := by
  refine spec_of_awp (fn := Tryz.f32) Tryz.func32 rfl rfl (by kernel_rfl) (fun Γ hn hΓ => ?_)
  have hn : Γ.n = 18 := hn
  unfold m_code_allFit_api_Block at h
  refine rgs0 (⟨[(0, (Q98 a_list)), (1, (.clo 33 [] []))], []⟩ : St) hn mix (no_hand hΓ) (by kernel_rfl) ?_
  refine awp_seq ?_
  refine rgs0 (⟨[(1, (.clo 33 [] [])), (7, (Q98 a_list)), (8, (Q100 a_list)), (9, (.int .i64 (0 : Int)))], []⟩ : St) hn mix (no_hand hΓ) (by kernel_rfl) ?_
  refine awp_block ?_
  refine awp_le (st' := (fun (i1 : Int) => (⟨[(1, (.clo 33 [] [])), (7, (Q98 a_list)), (8, (Q100 a_list)), (9, (.int .i64 i1))], []⟩ : St)) (0 : Int)) (Le.refl _ _) ?_
  obtain ⟨x4, hx4, h⟩ := bind_some h
  refine awp_loop (fun (i1 : Int) => (⟨[(1, (.clo 33 [] [])), (7, (Q98 a_list)), (8, (Q100 a_list)), (9, (.int .i64 i1))], []⟩ : St)) _ (fun (x_ : (Unit ⊕ Bool)) (e : Exit) (st : St) => match x_ with | (.inl _) => e = (.exit 0) ∧ Le Γ st (⟨[], []⟩ : St) | (.inr r_) => e = .ret ∧ retK Tryz.prog Tryz.f32.results.toList [] (.bool r_) [] e st) ?_ hx4 ?_
  · intro i1 y h
    unfold m_code_allFit_api_Block_L1 at h
    refine rgs0 (⟨[(1, (.clo 33 [] [])), (7, (Q98 a_list)), (8, (Q100 a_list)), (9, (.int .i64 i1)), (10, (.bool (decide ((i1 : Int) < (a_list.length : Int)))))], []⟩ : St) hn mix (no_hand hΓ) (by kernel_rfl) ?_
    refine awp_seq ?_
    refine awp_cond (decide ((i1 : Int) < (a_list.length : Int))) (by kernel_rfl) (fun hb => ?_) (fun hb => ?_)
    · replace h := cond_t hb h
      clear hb
      refine awp_skip ?_
      refine then_normal ?_
      refine awp_seq ?_
      refine awp_block ?_
      obtain ⟨hc2, h⟩ := chk_some h
      refine rgs [] [] (⟨[(1, (.clo 33 [] [])), (6, (.ptr 6 0)), (7, (Q98 a_list)), (8, (Q100 a_list)), (9, (.int .i64 i1))], [(6, .row 47 [(AV.list 4 eTPhi (default : TPhi) (Q99 a_list i1).Phis .none), (AV.list 6 eTOp (default : TOp) (Q99 a_list i1).Ops .none), (.int .i64 (Q99 a_list i1).End.Kind), (.int .i64 (Q99 a_list i1).End.Arg), (AV.list 1 eI64 (0 : Int) (Q99 a_list i1).End.To .none)])]⟩ : St) [(InB i1 a_list.length)] hn mix (no_hand hΓ) (by kernel_rfl) ⟨hc2, trivial⟩ ?_
      obtain ⟨x3, hx3, h⟩ := bind_some h
      refine rgs [⟨[], [], (.bool x3), []⟩] [] (⟨[(1, (.clo 33 [] [])), (7, (Q98 a_list)), (8, (Q100 a_list)), (9, (.int .i64 i1)), (16, (.bool (!x3)))], []⟩ : St) [(Spec Tryz.prog 33 [(.agg (eTBlock (Q99 a_list i1)))] [] (.bool x3) [])] hn mix (no_hand hΓ) (by kernel_rfl) ⟨(ok_code_blockFits (Q99 a_list i1) x3 hx3), trivial⟩ ?_
      refine awp_cond (!x3) (by kernel_rfl) (fun hb => ?_) (fun hb => ?_)
      · replace h := cond_t hb h
        clear hb
        refine rgs0 (⟨[(4, (.bool false))], []⟩ : St) hn mix (no_hand hΓ) (by kernel_rfl) ?_
        refine awp_ret ?_
        refine block_ret ?_
        refine then_ret ?_
        obtain rfl := Option.some.inj h
        exact ⟨(by intro hh; cases hh), rfl, ⟨.inl rfl, [], by kernel_rfl⟩⟩
      · replace h := cond_f hb h
        clear hb
        refine awp_skip ?_
        refine block_normal ?_
        refine then_normal ?_
        refine rg0 (⟨[(1, (.clo 33 [] [])), (7, (Q98 a_list)), (8, (Q100 a_list)), (9, (.int .i64 (w64 (i1 + (1 : Int)))))], []⟩ : St) hn mix (no_hand hΓ) (by kernel_rfl) ?_
        obtain rfl := Option.some.inj h
        exact ⟨rfl, Le.refl _ _⟩
    · replace h := cond_f hb h
      clear hb
      refine awp_exit ?_
      refine then_exit ?_
      obtain rfl := Option.some.inj h
      exact ⟨(by intro hh; cases hh), rfl, le_restrict_eq [] [] (by kernel_rfl) (no_hand hΓ)⟩
  · clear hx4
    rcases x4 with _ | r6
    · rintro e st' ⟨rfl, hl5⟩
      refine block_here ?_
      refine then_normal ?_
      refine awp_le hl5 ?_
      refine rgs0 (⟨[(4, (.bool true))], []⟩ : St) hn mix (no_hand hΓ) (by kernel_rfl) ?_
      refine awp_ret ?_
      obtain rfl := Option.some.inj h
      exact ⟨.inl rfl, [], by kernel_rfl⟩
    · rintro e st' ⟨rfl, hk⟩
      refine block_ret ?_
      refine then_ret ?_
      obtain rfl := Option.some.inj h
      exact hk

noncomputable def Q104 (x2 : Bool) (x3 : Bool) := ((bif x2 then x3 else false) == true)
noncomputable def Q101 (a_f : TFunc) := (decide (((a_f.Blocks.length : Int) : Int) < (1 : Int)))
noncomputable def Q102 (a_f : TFunc) := (decide (((16 : Int) : Int) < (a_f.Params.length : Int)))
noncomputable def Q103 (a_f : TFunc) : List (Nat × Own) := [(1, .row 25 [(AV.list 1 eI64 (0 : Int) a_f.Params .none), (.int .i64 a_f.Ret), (AV.list 5 eTBlock (default : TBlock) a_f.Blocks .none)])]
noncomputable def m_code_May (a_f : TFunc) : Option Bool :=
  (bif (bif (decide (((a_f.Blocks.length : Int) : Int) < (1 : Int))) then true else (decide (((64 : Int) : Int) < (a_f.Blocks.length : Int)))) then (some false) else ((bif ((decide (((16 : Int) : Int) < (a_f.Params.length : Int))) == false) then m_code_Size a_f else some (0 : Int)).bind fun x1 => (bif (bif (decide (((16 : Int) : Int) < (a_f.Params.length : Int))) then true else (decide (((512 : Int) : Int) < x1))) then (some false) else ((m_code_numbersFit a_f.Params).bind fun x2 => ((bif (x2 == true) then m_code_numbersFit ([a_f.Ret] : List (Int)) else some false).bind fun x3 => ((bif ((bif x2 then x3 else false) == true) then m_code_allFit_api_Block a_f.Blocks else some false).bind fun x4 => (some (bif (bif x2 then x3 else false) then x4 else false))))))))
theorem ok_code_May (a_f : TFunc) (r : Bool) (h : m_code_May a_f = some r) : Spec Tryz.prog 12 [(.agg (eTFunc a_f))] [] (.bool r) [] := by
  refine spec_of_awp (fn := Tryz.f12) Tryz.func12 rfl rfl (by kernel_rfl) (fun Γ hn hΓ => ?_)
  have hn : Γ.n = 36 := hn
  unfold m_code_May at h
  refine rgs0 (⟨[(1, (.ptr 1 0))], (Q103 a_f)⟩ : St) hn mix (no_hand hΓ) (by kernel_rfl) ?_
  refine awp_seq ?_
  refine rgs [] [] (⟨[(1, (.ptr 1 0)), (12, (.bool (bif (Q101 a_f) then true else (decide (((64 : Int) : Int) < (a_f.Blocks.length : Int))))))], (Q103 a_f)⟩ : St) [(((Q101 a_f) == false) = true → ((Q101 a_f) == false) = true), (((Q101 a_f) == false) = true → ((Q101 a_f) == false) = true), (((Q101 a_f) == false) = true → ((Q101 a_f) == false) = true), ((Q101 a_f) = false → ((Q101 a_f) == false) = true)] hn mix (no_hand hΓ) (by kernel_rfl) ⟨(fun hg => hg), (fun hg => hg), (fun hg => hg), gF, trivial⟩ ?_
  refine awp_cond (bif (Q101 a_f) then true else (decide (((64 : Int) : Int) < (a_f.Blocks.length : Int)))) (by kernel_rfl) (fun hb => ?_) (fun hb => ?_)
  · replace h := cond_t hb h
    clear hb
    refine rgs0 (⟨[(2, (.bool false))], []⟩ : St) hn mix (no_hand hΓ) (by kernel_rfl) ?_
    refine awp_ret ?_
    refine then_ret ?_
    obtain rfl := Option.some.inj h
    exact ⟨.inl rfl, [], by kernel_rfl⟩
  · replace h := cond_f hb h
    clear hb
    refine awp_skip ?_
    refine then_normal ?_
    refine awp_seq ?_
    obtain ⟨x1, hx1, h⟩ := bind_some h
    refine rgs [⟨[], [], (.int .i64 x1), []⟩] [] (⟨[(1, (.ptr 1 0)), (21, (.bool (bif (Q102 a_f) then true else (decide (((512 : Int) : Int) < x1)))))], (Q103 a_f)⟩ : St) [(((Q102 a_f) == false) = true → ((Q102 a_f) == false) = true), (((Q102 a_f) == false) = true → (Spec Tryz.prog 27 [(.agg (eTFunc a_f))] [] (.int .i64 x1) [])), (((Q102 a_f) == false) = true → ((Q102 a_f) == false) = true), ((Q102 a_f) = false → ((Q102 a_f) == false) = true)] hn mix (no_hand hΓ) (by kernel_rfl) ⟨(fun hg => hg), (fun hg => (ok_code_Size a_f x1 (cond_t hg hx1))), (fun hg => hg), gF, trivial⟩ ?_
    refine awp_cond (bif (Q102 a_f) then true else (decide (((512 : Int) : Int) < x1))) (by kernel_rfl) (fun hb => ?_) (fun hb => ?_)
    · replace h := cond_t hb h
      clear hb
      refine rgs0 (⟨[(2, (.bool false))], []⟩ : St) hn mix (no_hand hΓ) (by kernel_rfl) ?_
      refine awp_ret ?_
      refine then_ret ?_
      obtain rfl := Option.some.inj h
      exact ⟨.inl rfl, [], by kernel_rfl⟩
    · replace h := cond_f hb h
      clear hb
      refine awp_skip ?_
      refine then_normal ?_
      obtain ⟨x2, hx2, h⟩ := bind_some h
      obtain ⟨x3, hx3, h⟩ := bind_some h
      obtain ⟨x4, hx4, h⟩ := bind_some h
      refine rgs [⟨[], [], (.bool x2), []⟩, ⟨[], [], (.bool x3), []⟩, ⟨[], [], (.bool x4), []⟩] [(28, (AV.list 1 eI64 (0 : Int) ([a_f.Ret] : List (Int)) .exact))] (⟨[(2, (.bool (bif (bif x2 then x3 else false) then x4 else false)))], []⟩ : St) [(Spec Tryz.prog 31 [(AV.list 1 eI64 (0 : Int) a_f.Params .none)] [] (.bool x2) []), ((x2 == true) = true → (x2 == true) = true), ((x2 == true) = true → (x2 == true) = true), ((x2 == true) = true → (AVle (.slice 1 1 (fun i => ([[(.int .i64 a_f.Ret)]] : List (List AV)).getD i []) .exact) (AV.list 1 eI64 (0 : Int) ([a_f.Ret] : List (Int)) .exact))), ((x2 == true) = true → (x2 == true) = true), ((x2 == true) = true → (Spec Tryz.prog 31 [(AV.list 1 eI64 (0 : Int) ([a_f.Ret] : List (Int)) .none)] [] (.bool x3) [])), (x2 = true → (x2 == true) = true), ((Q104 x2 x3) = true → (Q104 x2 x3) = true), ((Q104 x2 x3) = true → (Q104 x2 x3) = true), ((Q104 x2 x3) = true → (Spec Tryz.prog 32 [(AV.list 5 eTBlock (default : TBlock) a_f.Blocks .none), (.clo 33 [] [])] [] (.bool x4) [])), ((bif x2 then x3 else false) = true → (Q104 x2 x3) = true)] hn mix (no_hand hΓ) (by kernel_rfl) ⟨(ok_code_numbersFit a_f.Params x2 hx2), (fun hg => hg), (fun hg => hg), (fun hg => (av_lit rfl (fun i hi => map_get (e := eI64) (d := (0 : Int)) ([a_f.Ret] : List (Int)) i hi))), (fun hg => hg), (fun hg => (ok_code_numbersFit ([a_f.Ret] : List (Int)) x3 (cond_t hg hx3))), gT, (fun hg => hg), (fun hg => hg), (fun hg => (ok_code_allFit_api_Block a_f.Blocks x4 (cond_t hg hx4))), gT, trivial⟩ ?_
      refine awp_ret ?_
      obtain rfl := Option.some.inj h
      exact ⟨.inl rfl, [], by kernel_rfl⟩

noncomputable def Q108 (x1 : Treader) : List AV := [(.str x1.word), (.str x1.rest), (.bool x1.wrong)]
noncomputable def Q106 : List AV := [(.slice 0 0 (fun _ => []) .exact), (.int .i64 (0 : Int)), (.slice 0 0 (fun _ => []) .exact)]
noncomputable def Q107 (x2 : (TFunc × Treader)) : List AV := [(AV.list 1 eI64 (0 : Int) x2.1.Params .none), (.int .i64 x2.1.Ret), (AV.list 5 eTBlock (default : TBlock) x2.1.Blocks .none)]
noncomputable def Q105 : List AV := [(AV.list 1 eI64 (0 : Int) ([] : List Int) .exact), (.int .i64 (0 : Int)), (AV.list 5 eTBlock (default : TBlock) ([] : List TBlock) .exact)]
noncomputable def m_text_Parse (a_s : List Int) : Option (TFunc × Int) :=
  ((m_text_startReader a_s).bind fun x1 => ((m_text_reader_function x1).bind fun x2 => ((bif (x2.2.wrong == false) then m_code_May x2.1 else some false).bind fun x3 => (bif (bif x2.2.wrong then true else (!x3)) then (some ((⟨([] : List Int), (0 : Int), ([] : List TBlock)⟩ : TFunc), (3 : Int))) else (some (x2.1, (0 : Int)))))))
theorem ok_text_Parse (a_s : List Int) (r : (TFunc × Int)) (h : m_text_Parse a_s = some r) : Spec Tryz.prog 8 [(.str a_s)] [] (.tuple [(.agg (eTFunc r.1)), (.int .i64 r.2)]) [] := by
  refine spec_of_awp (fn := Tryz.f8) Tryz.func8 rfl rfl (by kernel_rfl) (fun Γ hn hΓ => ?_)
  have hn : Γ.n = 21 := hn
  unfold m_text_Parse at h
  refine rgs0 (⟨[(0, (.str a_s)), (2, (.ptr 2 0))], [(2, .row 25 Q106)]⟩ : St) hn mix (no_hand hΓ) (by kernel_rfl) ?_
  obtain ⟨x1, hx1, h⟩ := bind_some h
  refine rgs [⟨[], [(20000, 7)], (.ptr 20000 0), [(20000, .row 69 (Q108 x1))]⟩] [] (⟨[(2, (.ptr 2 0)), (4, (.ptr 7 0))], [(2, .row 25 Q106), (7, .row 69 (Q108 x1))]⟩ : St) [(Spec Tryz.prog 24 [(.str a_s)] [] (.ptr 20000 0) [(20000, .row 69 (Q108 x1))])] hn mix (no_hand hΓ) (by kernel_rfl) ⟨(ok_text_startReader a_s x1 hx1), trivial⟩ ?_
  obtain ⟨x2, hx2, h⟩ := bind_some h
  refine rgs [⟨[(7, 30000)], [], (.agg (eTFunc x2.1)), [(30000, .row 69 [(.str x2.2.word), (.str x2.2.rest), (.bool x2.2.wrong)])]⟩] [] (⟨[(2, (.ptr 2 0)), (4, (.ptr 7 0)), (5, (.ptr 5 0))], [(2, .row 25 Q106), (5, .row 25 (Q107 x2)), (7, .row 69 [(.str x2.2.word), (.str x2.2.rest), (.bool x2.2.wrong)])]⟩ : St) [(Spec Tryz.prog 25 [(.ptr 30000 0)] [(30000, .row 69 (Q108 x1))] (.agg (eTFunc x2.1)) [(30000, .row 69 [(.str x2.2.word), (.str x2.2.rest), (.bool x2.2.wrong)])])] hn mix (no_hand hΓ) (by kernel_rfl) ⟨(ok_text_reader_function x1 x2 hx2), trivial⟩ ?_
  refine awp_seq ?_
  obtain ⟨x3, hx3, h⟩ := bind_some h
  refine rgs [⟨[], [], (.bool x3), []⟩] [] (⟨[(2, (.ptr 2 0)), (5, (.ptr 5 0)), (18, (.bool (bif x2.2.wrong then true else (!x3))))], [(2, .row 25 Q106), (5, .row 25 (Q107 x2))]⟩ : St) [((x2.2.wrong == false) = true → (x2.2.wrong == false) = true), ((x2.2.wrong == false) = true → (Spec Tryz.prog 12 [(.agg (eTFunc x2.1))] [] (.bool x3) [])), ((x2.2.wrong == false) = true → (x2.2.wrong == false) = true), (x2.2.wrong = false → (x2.2.wrong == false) = true)] hn mix (no_hand hΓ) (by kernel_rfl) ⟨(fun hg => hg), (fun hg => (ok_code_May x2.1 x3 (cond_t hg hx3))), (fun hg => hg), gF, trivial⟩ ?_
  refine awp_cond (bif x2.2.wrong then true else (!x3)) (by kernel_rfl) (fun hb => ?_) (fun hb => ?_)
  · replace h := cond_t hb h
    clear hb
    refine rgs [] [(19, (.agg Q105))] (⟨[(2, (.ptr 2 0)), (3, (.int .i64 (3 : Int)))], [(2, .row 25 Q105)]⟩ : St) [(AVle (.agg Q106) (.agg Q105))] hn mix (no_hand hΓ) (by kernel_rfl) ⟨(AVle.agg (.cons av_nil (.cons (AVle.refl _) (.cons av_nil .nil)))), trivial⟩ ?_
    refine awp_le (st' := (⟨[(2, (.ptr 2 0)), (3, (.int .i64 (3 : Int)))], [(2, .row 25 [(AV.list 1 eI64 (0 : Int) ([] : List Int) .none), (.int .i64 (0 : Int)), (AV.list 5 eTBlock (default : TBlock) ([] : List TBlock) .none)])]⟩ : St)) (Le.trans (le_restrict_eq (st' := (⟨[(2, (.ptr 2 0)), (3, (.int .i64 (3 : Int)))], [(2, .row 25 Q105)]⟩ : St)) [2, 3] [2] (by kernel_rfl) (no_hand hΓ)) (le_of (.cons (AVle.refl _) (.cons (AVle.refl _) .nil)) (.row (.cons AVle.untag (.cons (AVle.refl _) (.cons AVle.untag .nil))) .nil))) ?_
    refine awp_ret ?_
    refine then_ret ?_
    obtain rfl := Option.some.inj h
    exact ⟨.inl rfl, [], by kernel_rfl⟩
  · replace h := cond_f hb h
    clear hb
    refine awp_skip ?_
    refine then_normal ?_
    refine rgs0 (⟨[(2, (.ptr 2 0)), (3, (.int .i64 (0 : Int)))], [(2, .row 25 (Q107 x2))]⟩ : St) hn mix (no_hand hΓ) (by kernel_rfl) ?_
    refine awp_ret ?_
    obtain rfl := Option.some.inj h
    exact ⟨.inl rfl, [], by kernel_rfl⟩

noncomputable def m_text_hasNames_L1 (a_f : TFunc) (i1 : Int) : Int → Option (LR Int (Unit ⊕ Bool)) :=
  fun (i3 : Int) => (bif (decide ((i3 : Int) < (((a_f.Blocks.getD (i1).toNat (default : TBlock)).Ops).length : Int))) then (chk (InB i3 ((a_f.Blocks.getD (i1).toNat (default : TBlock)).Ops).length) (bif (decide (((23 : Int) : Int) ≤ (((a_f.Blocks.getD (i1).toNat (default : TBlock)).Ops).getD (i3).toNat (default : TOp)).Kind)) then (some (.done (.inr false))) else (some (.next (w64 (i3 + (1 : Int))))))) else (some (.done (.inl ()))))
noncomputable def m_text_hasNames_L2 (a_f : TFunc) : Int → Option (LR Int (Unit ⊕ Bool)) :=
  fun (i1 : Int) => (bif (decide ((i1 : Int) < (a_f.Blocks.length : Int))) then (chk (InB i1 a_f.Blocks.length) ((loopO (S := Int) (X := (Unit ⊕ Bool)) (m_text_hasNames_L1 a_f i1) (0 : Int)).bind (fun x5 => (match x5 with | (.inl _) => (bif (decide (((4 : Int) : Int) ≤ (a_f.Blocks.getD (i1).toNat (default : TBlock)).End.Kind)) then (some (.done (.inr false))) else (some (.next (w64 (i1 + (1 : Int)))))) | (.inr r7) => (some (.done (.inr r7))))))) else (some (.done (.inl ()))))
noncomputable def Q112 (a_f : TFunc) : AV := (.int .i64 (a_f.Blocks.length : Int))
noncomputable def Q110 (a_f : TFunc) (i1 : Int) := ((a_f.Blocks.getD (i1).toNat (default : TBlock)).Ops)
noncomputable def Q115 (a_f : TFunc) (i1 : Int) : AV := (.int .i64 ((Q110 a_f i1).length : Int))
noncomputable def Q114 (a_f : TFunc) (i1 : Int) (i3 : Int) := ((Q110 a_f i1).getD (i3).toNat (default : TOp))
noncomputable def Q111 (a_f : TFunc) : AV := (AV.list 5 eTBlock (default : TBlock) a_f.Blocks .none)
noncomputable def Q113 (a_f : TFunc) (i1 : Int) : AV := (AV.list 6 eTOp (default : TOp) (a_f.Blocks.getD (i1).toNat (default : TBlock)).Ops .none)
noncomputable def Q109 (a_f : TFunc) (i1 : Int) : List AV := [(AV.list 4 eTPhi (default : TPhi) (a_f.Blocks.getD (i1).toNat (default : TBlock)).Phis .none), (Q113 a_f i1), (.int .i64 (a_f.Blocks.getD (i1).toNat (default : TBlock)).End.Kind), (.int .i64 (a_f.Blocks.getD (i1).toNat (default : TBlock)).End.Arg), (AV.list 1 eI64 (0 : Int) (a_f.Blocks.getD (i1).toNat (default : TBlock)).End.To .none)]
noncomputable def Q116 (a_f : TFunc) (i1 : Int) := (fun (i3 : Int) => (⟨[(4, (.ptr 4 0)), (8, (Q111 a_f)), (9, (Q112 a_f)), (10, (.int .i64 i1)), (15, (Q113 a_f i1)), (16, (Q115 a_f i1)), (17, (.int .i64 i3))], [(4, .row 47 (Q109 a_f i1))]⟩ : St))
noncomputable def m_text_hasNames (a_f : TFunc) : Option Bool :=
  ((loopO (S := Int) (X := (Unit ⊕ Bool)) (m_text_hasNames_L2 a_f) (0 : Int)).bind (fun x8 => (match x8 with | (.inl _) => (some true) | (.inr r10) => (some r10))))
theorem ok_text_hasNames (a_f : TFunc) (r : Bool) (h : m_text_hasNames a_f = some r) : Spec Tryz.prog 13 [(.agg (eTFunc a_f))] [] (.bool r) [] := by
  refine spec_of_awp (fn := Tryz.f13) Tryz.func13 rfl rfl (by kernel_rfl) (fun Γ hn hΓ => ?_)
  have hn : Γ.n = 30 := hn
  unfold m_text_hasNames at h
  refine rgs0 (⟨[(1, (.ptr 1 0))], [(1, .row 25 [(AV.list 1 eI64 (0 : Int) a_f.Params .none), (.int .i64 a_f.Ret), (Q111 a_f)])]⟩ : St) hn mix (no_hand hΓ) (by kernel_rfl) ?_
  refine awp_seq ?_
  refine rgs0 (⟨[(8, (Q111 a_f)), (9, (Q112 a_f)), (10, (.int .i64 (0 : Int)))], []⟩ : St) hn mix (no_hand hΓ) (by kernel_rfl) ?_
  refine awp_block ?_
  refine awp_le (st' := (fun (i1 : Int) => (⟨[(8, (Q111 a_f)), (9, (Q112 a_f)), (10, (.int .i64 i1))], []⟩ : St)) (0 : Int)) (Le.refl _ _) ?_
  obtain ⟨x8, hx8, h⟩ := bind_some h
  refine awp_loop (fun (i1 : Int) => (⟨[(8, (Q111 a_f)), (9, (Q112 a_f)), (10, (.int .i64 i1))], []⟩ : St)) _ (fun (x_ : (Unit ⊕ Bool)) (e : Exit) (st : St) => match x_ with | (.inl _) => e = (.exit 0) ∧ Le Γ st (⟨[], []⟩ : St) | (.inr r_) => e = .ret ∧ retK Tryz.prog Tryz.f13.results.toList [] (.bool r_) [] e st) ?_ hx8 ?_
  · intro i1 y h
    unfold m_text_hasNames_L2 at h
    refine rgs0 (⟨[(8, (Q111 a_f)), (9, (Q112 a_f)), (10, (.int .i64 i1)), (11, (.bool (decide ((i1 : Int) < (a_f.Blocks.length : Int)))))], []⟩ : St) hn mix (no_hand hΓ) (by kernel_rfl) ?_
    refine awp_seq ?_
    refine awp_cond (decide ((i1 : Int) < (a_f.Blocks.length : Int))) (by kernel_rfl) (fun hb => ?_) (fun hb => ?_)
    · replace h := cond_t hb h
      clear hb
      refine awp_skip ?_
      refine then_normal ?_
      refine awp_seq ?_
      refine awp_block ?_
      obtain ⟨hc2, h⟩ := chk_some h
      refine rgs [] [] (⟨[(4, (.ptr 4 0)), (8, (Q111 a_f)), (9, (Q112 a_f)), (10, (.int .i64 i1))], [(4, .row 47 (Q109 a_f i1))]⟩ : St) [(InB i1 a_f.Blocks.length)] hn mix (no_hand hΓ) (by kernel_rfl) ⟨hc2, trivial⟩ ?_
      refine awp_seq ?_
      refine rgs0 (⟨[(4, (.ptr 4 0)), (8, (Q111 a_f)), (9, (Q112 a_f)), (10, (.int .i64 i1)), (15, (Q113 a_f i1)), (16, (Q115 a_f i1)), (17, (.int .i64 (0 : Int)))], [(4, .row 47 (Q109 a_f i1))]⟩ : St) hn mix (no_hand hΓ) (by kernel_rfl) ?_
      refine awp_block ?_
      refine awp_le (st' := (Q116 a_f i1) (0 : Int)) (Le.refl _ _) ?_
      obtain ⟨x5, hx5, h⟩ := bind_some h
      refine awp_loop (Q116 a_f i1) _ (fun (x_ : (Unit ⊕ Bool)) (e : Exit) (st : St) => match x_ with | (.inl _) => e = (.exit 2) ∧ Le Γ st (⟨[(4, (.ptr 4 0)), (8, (Q111 a_f)), (9, (Q112 a_f)), (10, (.int .i64 i1))], [(4, .row 47 (Q109 a_f i1))]⟩ : St) | (.inr r_) => e = .ret ∧ retK Tryz.prog Tryz.f13.results.toList [] (.bool r_) [] e st) ?_ hx5 ?_
      · intro i3 y h
        unfold m_text_hasNames_L1 at h
        refine rgs0 (⟨[(4, (.ptr 4 0)), (8, (Q111 a_f)), (9, (Q112 a_f)), (10, (.int .i64 i1)), (15, (Q113 a_f i1)), (16, (Q115 a_f i1)), (17, (.int .i64 i3)), (18, (.bool (decide ((i3 : Int) < ((Q110 a_f i1).length : Int)))))], [(4, .row 47 (Q109 a_f i1))]⟩ : St) hn mix (no_hand hΓ) (by kernel_rfl) ?_
        refine awp_seq ?_
        refine awp_cond (decide ((i3 : Int) < ((Q110 a_f i1).length : Int))) (by kernel_rfl) (fun hb => ?_) (fun hb => ?_)
        · replace h := cond_t hb h
          clear hb
          refine awp_skip ?_
          refine then_normal ?_
          refine awp_seq ?_
          refine awp_block ?_
          obtain ⟨hc4, h⟩ := chk_some h
          refine rgs [] [] (⟨[(4, (.ptr 4 0)), (6, (.ptr 6 0)), (8, (Q111 a_f)), (9, (Q112 a_f)), (10, (.int .i64 i1)), (15, (Q113 a_f i1)), (16, (Q115 a_f i1)), (17, (.int .i64 i3))], [(4, .row 47 (Q109 a_f i1)), (6, .row 41 [(.int .i64 (Q114 a_f i1 i3).Kind), (.int .i64 (Q114 a_f i1 i3).Bits), (.int .i64 (Q114 a_f i1 i3).Lanes), (.int .i64 (Q114 a_f i1 i3).Dst), (AV.list 1 eI64 (0 : Int) (Q114 a_f i1 i3).Args .none), (.int .u64 (Q114 a_f i1 i3).Imm)])]⟩ : St) [(InB i3 (Q110 a_f i1).length)] hn mix (no_hand hΓ) (by kernel_rfl) ⟨hc4, trivial⟩ ?_
          refine rgs0 (⟨[(4, (.ptr 4 0)), (8, (Q111 a_f)), (9, (Q112 a_f)), (10, (.int .i64 i1)), (15, (Q113 a_f i1)), (16, (Q115 a_f i1)), (17, (.int .i64 i3)), (23, (.bool (decide (((23 : Int) : Int) ≤ (Q114 a_f i1 i3).Kind))))], [(4, .row 47 (Q109 a_f i1))]⟩ : St) hn mix (no_hand hΓ) (by kernel_rfl) ?_
          refine awp_cond (decide (((23 : Int) : Int) ≤ (Q114 a_f i1 i3).Kind)) (by kernel_rfl) (fun hb => ?_) (fun hb => ?_)
          · replace h := cond_t hb h
            clear hb
            refine rgs0 (⟨[(2, (.bool false))], []⟩ : St) hn mix (no_hand hΓ) (by kernel_rfl) ?_
            refine awp_ret ?_
            refine block_ret ?_
            refine then_ret ?_
            obtain rfl := Option.some.inj h
            exact ⟨(by intro hh; cases hh), rfl, ⟨.inl rfl, [], by kernel_rfl⟩⟩
          · replace h := cond_f hb h
            clear hb
            refine awp_skip ?_
            refine block_normal ?_
            refine then_normal ?_
            refine rg0 (⟨[(4, (.ptr 4 0)), (8, (Q111 a_f)), (9, (Q112 a_f)), (10, (.int .i64 i1)), (15, (Q113 a_f i1)), (16, (Q115 a_f i1)), (17, (.int .i64 (w64 (i3 + (1 : Int)))))], [(4, .row 47 (Q109 a_f i1))]⟩ : St) hn mix (no_hand hΓ) (by kernel_rfl) ?_
            obtain rfl := Option.some.inj h
            exact ⟨rfl, Le.refl _ _⟩
        · replace h := cond_f hb h
          clear hb
          refine awp_exit ?_
          refine then_exit ?_
          obtain rfl := Option.some.inj h
          exact ⟨(by intro hh; cases hh), rfl, le_restrict_eq [4, 8, 9, 10] [4] (by kernel_rfl) (no_hand hΓ)⟩
      · clear hx5
        rcases x5 with _ | r7
        · rintro e st' ⟨rfl, hl6⟩
          refine block_here ?_
          refine then_normal ?_
          refine awp_le hl6 ?_
          refine rgs0 (⟨[(8, (Q111 a_f)), (9, (Q112 a_f)), (10, (.int .i64 i1)), (28, (.bool (decide (((4 : Int) : Int) ≤ (a_f.Blocks.getD (i1).toNat (default : TBlock)).End.Kind))))], []⟩ : St) hn mix (no_hand hΓ) (by kernel_rfl) ?_
          refine awp_cond (decide (((4 : Int) : Int) ≤ (a_f.Blocks.getD (i1).toNat (default : TBlock)).End.Kind)) (by kernel_rfl) (fun hb => ?_) (fun hb => ?_)
          · replace h := cond_t hb h
            clear hb
            refine rgs0 (⟨[(2, (.bool false))], []⟩ : St) hn mix (no_hand hΓ) (by kernel_rfl) ?_
            refine awp_ret ?_
            refine block_ret ?_
            refine then_ret ?_
            obtain rfl := Option.some.inj h
            exact ⟨(by intro hh; cases hh), rfl, ⟨.inl rfl, [], by kernel_rfl⟩⟩
          · replace h := cond_f hb h
            clear hb
            refine awp_skip ?_
            refine block_normal ?_
            refine then_normal ?_
            refine rg0 (⟨[(8, (Q111 a_f)), (9, (Q112 a_f)), (10, (.int .i64 (w64 (i1 + (1 : Int)))))], []⟩ : St) hn mix (no_hand hΓ) (by kernel_rfl) ?_
            obtain rfl := Option.some.inj h
            exact ⟨rfl, Le.refl _ _⟩
        · rintro e st' ⟨rfl, hk⟩
          refine block_ret ?_
          refine then_ret ?_
          refine block_ret ?_
          refine then_ret ?_
          obtain rfl := Option.some.inj h
          exact ⟨(by intro hh; cases hh), rfl, hk⟩
    · replace h := cond_f hb h
      clear hb
      refine awp_exit ?_
      refine then_exit ?_
      obtain rfl := Option.some.inj h
      exact ⟨(by intro hh; cases hh), rfl, le_restrict_eq [] [] (by kernel_rfl) (no_hand hΓ)⟩
  · clear hx8
    rcases x8 with _ | r10
    · rintro e st' ⟨rfl, hl9⟩
      refine block_here ?_
      refine then_normal ?_
      refine awp_le hl9 ?_
      refine rgs0 (⟨[(2, (.bool true))], []⟩ : St) hn mix (no_hand hΓ) (by kernel_rfl) ?_
      refine awp_ret ?_
      obtain rfl := Option.some.inj h
      exact ⟨.inl rfl, [], by kernel_rfl⟩
    · rintro e st' ⟨rfl, hk⟩
      refine block_ret ?_
      refine then_ret ?_
      obtain rfl := Option.some.inj h
      exact hk

noncomputable def m_text_number (a_v : Int) : Option (List Int) :=
  ((x_Itoa a_v).bind fun x1 => (some x1))
theorem ok_text_number (a_v : Int) (r : List Int) (h : m_text_number a_v = some r) : Spec Tryz.prog 16 [(.int .i64 a_v)] [] (.str r) [] := by
  refine spec_of_awp (fn := Tryz.f16) Tryz.func16 rfl rfl (by kernel_rfl) (fun Γ hn hΓ => ?_)
  have hn : Γ.n = 5 := hn
  unfold m_text_number at h
  refine rgs0 (⟨[(0, (.int .i64 a_v))], []⟩ : St) hn mix (no_hand hΓ) (by kernel_rfl) ?_
  obtain ⟨x1, hx1, h⟩ := bind_some h
  refine rgs [⟨[], [], (.str x1), []⟩] [] (⟨[(2, (.str x1))], []⟩ : St) [(Spec Tryz.prog 37 [(.int .i64 a_v)] [] (.str x1) [])] hn mix (no_hand hΓ) (by kernel_rfl) ⟨(xok_Itoa a_v x1 hx1), trivial⟩ ?_
  refine awp_ret ?_
  obtain rfl := Option.some.inj h
  exact ⟨.inl rfl, [], by kernel_rfl⟩

noncomputable def m_text_list_L1 (a_vs : List (Int)) : (Int × List (List Int)) → Option (LR (Int × List (List Int)) (List (List Int))) :=
  fun ((i2, l3) : (Int × List (List Int))) => (bif (decide ((i2 : Int) < (a_vs.length : Int))) then (chk (InB i2 a_vs.length) ((m_text_number (a_vs.getD (i2).toNat (0 : Int))).bind fun x6 => (chk (InB i2 l3.length) (some (.next ((w64 (i2 + (1 : Int))), (l3.set (i2).toNat x6))))))) else (some (.done l3)))
noncomputable def Q121 (a_vs : List (Int)) := (a_vs.length : Int)
noncomputable def Q120 (a_vs : List (Int)) : AV := (AV.list 1 eI64 (0 : Int) a_vs .none)
noncomputable def Q118 (a_vs : List (Int)) := (List.replicate ((Q121 a_vs)).toNat ([] : List Int))
noncomputable def Q119 (l3 : List (List Int)) : List (Nat × Own) := [(8, .arr 1 9 l3.length (fun i => eS (l3.getD i ([] : List Int))))]
noncomputable def Q117 (l3 : List (List Int)) (a_vs : List (Int)) (i2 : Int) : List (Nat × AV) := [(3, (.vsl 8 l3.length)), (9, (Q120 a_vs)), (10, (.int .i64 (Q121 a_vs))), (11, (.int .i64 i2))]
noncomputable def m_text_list (a_vs : List (Int)) : Option (List Int) :=
  (chk (0 ≤ (a_vs.length : Int) ∧ (a_vs.length : Int) ≤ (a_vs.length : Int) ∧ (a_vs.length : Int) ≤ (room : Int)) ((loopO (S := (Int × List (List Int))) (X := List (List Int)) (m_text_list_L1 a_vs) ((0 : Int), (List.replicate ((a_vs.length : Int)).toNat ([] : List Int)))).bind (fun x8 => (((x_Join x8 ([32] : List Int)).bind fun x10 => (chk ((([40] : List Int).length : Int) + x10.length ≤ 9223372036854775807) (chk (((([40] : List Int) ++ x10).length : Int) + ([41] : List Int).length ≤ 9223372036854775807) (some ((([40] : List Int) ++ x10) ++ ([41] : List Int))))))))))
theorem ok_text_list (a_vs : List (Int)) (r : List Int) (h : m_text_list a_vs = some r) : Spec Tryz.prog 15 [(AV.list 1 eI64 (0 : Int) a_vs .none)] [] (.str r) [] := by
  refine spec_of_awp (fn := Tryz.f15) Tryz.func15 rfl rfl (by kernel_rfl) (fun Γ hn hΓ => ?_)
  have hn : Γ.n = 26 := hn
  unfold m_text_list at h
  refine rgs0 (⟨[(0, (Q120 a_vs))], []⟩ : St) hn mix (no_hand hΓ) (by kernel_rfl) ?_
  obtain ⟨hc1, h⟩ := chk_some h
  refine rgs [] [] (⟨[(0, (Q120 a_vs)), (3, (.vsl 8 ((Q121 a_vs)).toNat))], [(8, .arr 1 9 (((Q121 a_vs)).toNat) (fun i_ => AV.eraseAll (fun n_ => memB n_ [8]) ((fun _ => [(.str ([] : List Int))]) i_)))]⟩ : St) [(0 ≤ (Q121 a_vs) ∧ (Q121 a_vs) ≤ (Q121 a_vs) ∧ (Q121 a_vs) ≤ (room : Int))] hn mix (no_hand hΓ) (by kernel_rfl) ⟨hc1, trivial⟩ ?_
  refine awp_le (Le.trans (le_of (st' := (⟨[(0, (Q120 a_vs)), (3, (.vsl 8 ((Q121 a_vs)).toNat))], [(8, .arr 1 9 (((Q121 a_vs)).toNat) (fun i => eS ((Q118 a_vs).getD i ([] : List Int))))]⟩ : St)) (TmpsLe.refl _) (.arr (fun k hk => make_le (e := eS) (d := ([] : List Int)) (.cons (AVle.refl _) .nil) _ k (repl_lt hk)) .nil)) (le_eq (congrArg (fun k_ : Nat => (⟨[(0, (Q120 a_vs)), (3, (.vsl 8 k_))], [(8, .arr 1 9 k_ (fun i => eS ((Q118 a_vs).getD i ([] : List Int))))]⟩ : St)) (show ((Q121 a_vs)).toNat = (Q118 a_vs).length from (List.length_replicate ..).symm)))) ?_
  refine awp_seq ?_
  refine rgs0 (⟨[(3, (.vsl 8 (Q118 a_vs).length)), (9, (Q120 a_vs)), (10, (.int .i64 (Q121 a_vs))), (11, (.int .i64 (0 : Int)))], [(8, .arr 1 9 ((Q118 a_vs).length) (fun i => eS ((Q118 a_vs).getD i ([] : List Int))))]⟩ : St) hn mix (no_hand hΓ) (by kernel_rfl) ?_
  refine awp_block ?_
  refine awp_le (st' := (fun ((i2, l3) : (Int × List (List Int))) => (⟨(Q117 l3 a_vs i2), (Q119 l3)⟩ : St)) ((0 : Int), (Q118 a_vs))) (Le.refl _ _) ?_
  obtain ⟨x8, hx8, h⟩ := bind_some h
  refine awp_loop (fun ((i2, l3) : (Int × List (List Int))) => (⟨(Q117 l3 a_vs i2), (Q119 l3)⟩ : St)) _ (fun (l4 : List (List Int)) (e : Exit) (st : St) => e = (.exit 0) ∧ Le Γ st (⟨[(3, (.vsl 8 l4.length))], [(8, .arr 1 9 l4.length (fun i => eS (l4.getD i ([] : List Int))))]⟩ : St)) ?_ hx8 ?_
  · rintro ⟨i2, l3⟩ y h
    unfold m_text_list_L1 at h
    refine rgs0 (⟨[(3, (.vsl 8 l3.length)), (9, (Q120 a_vs)), (10, (.int .i64 (Q121 a_vs))), (11, (.int .i64 i2)), (12, (.bool (decide ((i2 : Int) < (Q121 a_vs)))))], (Q119 l3)⟩ : St) hn mix (no_hand hΓ) (by kernel_rfl) ?_
    refine awp_seq ?_
    refine awp_cond (decide ((i2 : Int) < (Q121 a_vs))) (by kernel_rfl) (fun hb => ?_) (fun hb => ?_)
    · replace h := cond_t hb h
      clear hb
      refine awp_skip ?_
      refine then_normal ?_
      refine awp_seq ?_
      refine awp_block ?_
      obtain ⟨hc5, h⟩ := chk_some h
      refine rgs [] [] (⟨[(3, (.vsl 8 l3.length)), (4, (.int .i64 i2)), (5, (.int .i64 (a_vs.getD (i2).toNat (0 : Int)))), (9, (Q120 a_vs)), (10, (.int .i64 (Q121 a_vs))), (11, (.int .i64 i2))], (Q119 l3)⟩ : St) [(InB i2 a_vs.length)] hn mix (no_hand hΓ) (by kernel_rfl) ⟨hc5, trivial⟩ ?_
      obtain ⟨x6, hx6, h⟩ := bind_some h
      obtain ⟨hc7, h⟩ := chk_some h
      refine rg [⟨[], [], (.str x6), []⟩] [] (⟨(Q117 l3 a_vs i2), [(8, .arr 1 9 l3.length (fun i_ => AV.eraseAll (fun n_ => memB n_ [8]) ((putF (fun i => eS (l3.getD i ([] : List Int))) (i2).toNat 0 [(.str x6)]) i_)))]⟩ : St) [(Spec Tryz.prog 16 [(.int .i64 (a_vs.getD (i2).toNat (0 : Int)))] [] (.str x6) []), (InB i2 l3.length), (l3.length = l3.length)] hn mix (no_hand hΓ) (by kernel_rfl) ⟨(ok_text_number (a_vs.getD (i2).toNat (0 : Int)) x6 hx6), hc7, rfl, trivial⟩ ?_
      refine block_normal ?_
      refine then_normal ?_
      refine awp_le (Le.trans (le_of (st' := (⟨(Q117 l3 a_vs i2), [(8, .arr 1 9 l3.length (fun i => eS ((l3.set (i2).toNat x6).getD i ([] : List Int))))]⟩ : St)) (TmpsLe.refl _) (.arr (leL_of_eq (List.length_set ..).symm (fun k_ hk_ => (congrArg (AV.eraseAll (fun n_ => memB n_ [8])) ((putF_set (fun _ _ => rfl) (inB_lt0 hc7) rfl) k_ hk_)).trans rfl)) .nil)) (le_eq (congrArg (fun k_ : Nat => (⟨[(3, (.vsl 8 k_)), (9, (Q120 a_vs)), (10, (.int .i64 (Q121 a_vs))), (11, (.int .i64 i2))], [(8, .arr 1 9 k_ (fun i => eS ((l3.set (i2).toNat x6).getD i ([] : List Int))))]⟩ : St)) (show l3.length = (l3.set (i2).toNat x6).length from (List.length_set ..).symm)))) ?_
      refine rg0 (⟨[(3, (.vsl 8 (l3.set (i2).toNat x6).length)), (9, (Q120 a_vs)), (10, (.int .i64 (Q121 a_vs))), (11, (.int .i64 (w64 (i2 + (1 : Int)))))], [(8, .arr 1 9 ((l3.set (i2).toNat x6).length) (fun i => eS ((l3.set (i2).toNat x6).getD i ([] : List Int))))]⟩ : St) hn mix (no_hand hΓ) (by kernel_rfl) ?_
      obtain rfl := Option.some.inj h
      exact ⟨rfl, Le.refl _ _⟩
    · replace h := cond_f hb h
      clear hb
      refine awp_exit ?_
      refine then_exit ?_
      obtain rfl := Option.some.inj h
      exact ⟨(by intro hh; cases hh), rfl, le_restrict_eq [3] [8] (by kernel_rfl) (no_hand hΓ)⟩
  · clear hx8
    rintro e st' ⟨rfl, hl9⟩
    refine block_here ?_
    refine then_normal ?_
    refine awp_le hl9 ?_
    refine awp_seq ?_
    refine awp_le (Le.trans (le_freeze (nm := 8) (sz := 1) (n := x8.length) (e := 9) (f := (fun i => eS (x8.getD i ([] : List Int)))) (g := (fun i => eS (x8.getD i ([] : List Int)))) rfl ⟨rfl, trivial⟩ (fun _ _ => rfl) (by rw [hΓ]; rfl)) (le_eq (st' := (⟨[(3, (AV.list 1 eS ([] : List Int) x8 (.own 8)))], [(8, .tok 1 9 x8.length)]⟩ : St)) (by kernel_rfl))) ?_
    obtain ⟨x10, hx10, h⟩ := bind_some h
    obtain ⟨hc11, h⟩ := chk_some h
    obtain ⟨hc12, h⟩ := chk_some h
    refine rg [⟨[], [], (.str x10), []⟩] [] (⟨[(2, (.str ((([40] : List Int) ++ x10) ++ ([41] : List Int))))], []⟩ : St) [(Spec Tryz.prog 35 [(AV.list 1 eS ([] : List Int) x8 .none), (.str ([32] : List Int))] [] (.str x10) []), ((([40] : List Int).length : Int) + x10.length ≤ 9223372036854775807), (((([40] : List Int) ++ x10).length : Int) + ([41] : List Int).length ≤ 9223372036854775807)] hn mix (no_hand hΓ) (by kernel_rfl) ⟨(xok_Join x8 ([32] : List Int) x10 hx10), hc11, hc12, trivial⟩ ?_
    refine then_normal ?_
    refine awp_ret ?_
    obtain rfl := Option.some.inj h
    exact ⟨.inl rfl, [], by kernel_rfl⟩

noncomputable def Q122 (x1 : List (Int)) : List (Nat × Own) := [(30000, .row 52 [(.ptr 30000 0), (AV.list 1 eU8 (0 : Int) x1 (.own 37001))]), (37001, .tok 1 5 x1.length)]
noncomputable def m_strings_Builder_WriteString (a_s : List Int) (a_w0_1 : List (Int)) : Option (Int × Bool × List (Int)) :=
  ((x_copyCheck a_w0_1).bind fun x1 => (chk (x1.length + a_s.length ≤ room) (some ((a_s.length : Int), false, (x1 ++ a_s)))))
theorem ok_strings_Builder_WriteString (a_s : List Int) (a_w0_1 : List (Int)) (r : (Int × Bool × List (Int))) (h : m_strings_Builder_WriteString a_s a_w0_1 = some r) : Spec Tryz.prog 34 [(.ptr 30000 0), (.str a_s)] [(30000, .row 52 [.nilp, (AV.list 1 eU8 (0 : Int) a_w0_1 (.own 37001))]), (37001, .tok 1 5 a_w0_1.length)] (.tuple [(.int .i64 r.1), (.err r.2.1)]) [(30000, .row 52 [(.ptr 30000 0), (AV.list 1 eU8 (0 : Int) r.2.2 (.own 37001))]), (37001, .tok 1 5 r.2.2.length)] := by
  refine spec_of_awp (fn := Tryz.f34) Tryz.func34 rfl rfl (by kernel_rfl) (fun Γ hn hΓ => ?_)
  have hn : Γ.n = 19 := hn
  unfold m_strings_Builder_WriteString at h
  refine rgs0 (⟨[(0, (.ptr 30000 0)), (1, (.str a_s))], [(30000, .row 52 [.nilp, (AV.list 1 eU8 (0 : Int) a_w0_1 (.own 37001))]), (37001, .tok 1 5 a_w0_1.length)]⟩ : St) hn mix (hand_in hΓ rfl) (by kernel_rfl) ?_
  obtain ⟨x1, hx1, h⟩ := bind_some h
  refine rgs [⟨[(30000, 30000), (37001, 37001)], [], (.tuple []), (Q122 x1)⟩] [] (⟨[(0, (.ptr 30000 0)), (1, (.str a_s))], (Q122 x1)⟩ : St) [(Spec Tryz.prog 59 [(.ptr 30000 0)] [(30000, .row 52 [.nilp, (AV.list 1 eU8 (0 : Int) a_w0_1 (.own 37001))]), (37001, .tok 1 5 a_w0_1.length)] (.tuple []) (Q122 x1))] hn mix (hand_in hΓ rfl) (by kernel_rfl) ⟨(xok_copyCheckN a_w0_1 x1 hx1), trivial⟩ ?_
  obtain ⟨hc2, h⟩ := chk_some h
  refine rgs [] [(14, (AV.list 1 eU8 (0 : Int) (x1 ++ a_s) (.own 37001)))] (⟨[(1, (.str a_s))], [(30000, .row 52 [(.ptr 30000 0), (AV.list 1 eU8 (0 : Int) (x1 ++ a_s) (.own 37001))]), (37001, .tok 1 5 ((x1 ++ a_s).length))]⟩ : St) [(x1.length = x1.length), (x1.length + a_s.length ≤ room), (AVle (.slice 1 (x1.length + a_s.length) (appF x1.length (fun i => eU8 (x1.getD i (0 : Int))) (strF a_s)) (.own 37001)) (AV.list 1 eU8 (0 : Int) (x1 ++ a_s) (.own 37001))), (x1.length + a_s.length = (x1 ++ a_s).length)] hn mix (hand_in hΓ rfl) (by kernel_rfl) ⟨rfl, hc2, (av_app (e := eU8) (d := (0 : Int)) (l := x1) (m := a_s)), (len_app _ _), trivial⟩ ?_
  refine rgs0 (⟨[(4, (.int .i64 (a_s.length : Int))), (5, (.err false))], [(30000, .row 52 [(.ptr 30000 0), (AV.list 1 eU8 (0 : Int) (x1 ++ a_s) (.own 37001))]), (37001, .tok 1 5 ((x1 ++ a_s).length))]⟩ : St) hn mix (hand_in hΓ rfl) (by kernel_rfl) ?_
  refine awp_ret ?_
  obtain rfl := Option.some.inj h
  exact ⟨.inl rfl, [(30000, 30000), (37001, 37001)], by kernel_rfl⟩

noncomputable def Q124 (x1 : List (Int)) (a_c : Int) : AV := (AV.list 1 eU8 (0 : Int) (x1 ++ ([a_c] : List (Int))) (.own 37001))
noncomputable def Q123 (x1 : List (Int)) : List (Nat × Own) := [(30000, .row 52 [(.ptr 30000 0), (AV.list 1 eU8 (0 : Int) x1 (.own 37001))]), (37001, .tok 1 5 x1.length)]
noncomputable def m_strings_Builder_WriteByte (a_c : Int) (a_w0_1 : List (Int)) : Option (Bool × List (Int)) :=
  ((x_copyCheck a_w0_1).bind fun x1 => (chk (x1.length + ([a_c] : List (Int)).length ≤ room) (some (false, (x1 ++ ([a_c] : List (Int)))))))
theorem ok_strings_Builder_WriteByte (a_c : Int) (a_w0_1 : List (Int)) (r : (Bool × List (Int))) (h : m_strings_Builder_WriteByte a_c a_w0_1 = some r) : Spec Tryz.prog 36 [(.ptr 30000 0), (.int .u8 a_c)] [(30000, .row 52 [(.ptr 30000 0), (AV.list 1 eU8 (0 : Int) a_w0_1 (.own 37001))]), (37001, .tok 1 5 a_w0_1.length)] (.err r.1) [(30000, .row 52 [(.ptr 30000 0), (AV.list 1 eU8 (0 : Int) r.2 (.own 37001))]), (37001, .tok 1 5 r.2.length)] := by
  refine spec_of_awp (fn := Tryz.f36) Tryz.func36 rfl rfl (by kernel_rfl) (fun Γ hn hΓ => ?_)
  have hn : Γ.n = 17 := hn
  unfold m_strings_Builder_WriteByte at h
  refine rgs0 (⟨[(0, (.ptr 30000 0)), (1, (.int .u8 a_c))], [(30000, .row 52 [(.ptr 30000 0), (AV.list 1 eU8 (0 : Int) a_w0_1 (.own 37001))]), (37001, .tok 1 5 a_w0_1.length)]⟩ : St) hn mix (hand_in hΓ rfl) (by kernel_rfl) ?_
  obtain ⟨x1, hx1, h⟩ := bind_some h
  refine rgs [⟨[(30000, 30000), (37001, 37001)], [], (.tuple []), (Q123 x1)⟩] [] (⟨[(0, (.ptr 30000 0)), (1, (.int .u8 a_c))], (Q123 x1)⟩ : St) [(Spec Tryz.prog 59 [(.ptr 30000 0)] [(30000, .row 52 [(.ptr 30000 0), (AV.list 1 eU8 (0 : Int) a_w0_1 (.own 37001))]), (37001, .tok 1 5 a_w0_1.length)] (.tuple []) (Q123 x1))] hn mix (hand_in hΓ rfl) (by kernel_rfl) ⟨(xok_copyCheckP a_w0_1 x1 hx1), trivial⟩ ?_
  obtain ⟨hc2, h⟩ := chk_some h
  refine rgs [] [(13, (AV.list 1 eU8 (0 : Int) ([a_c] : List (Int)) .exact)), (14, (Q124 x1 a_c))] (⟨[], [(30000, .row 52 [(.ptr 30000 0), (Q124 x1 a_c)]), (37001, .tok 1 5 ((x1 ++ ([a_c] : List (Int))).length))]⟩ : St) [(AVle (.slice 1 1 (fun i => ([[(.int .u8 a_c)]] : List (List AV)).getD i []) .exact) (AV.list 1 eU8 (0 : Int) ([a_c] : List (Int)) .exact)), (x1.length = x1.length), (x1.length + ([a_c] : List (Int)).length ≤ room), (AVle (.slice 1 (x1.length + ([a_c] : List (Int)).length) (appF x1.length (fun i => eU8 (x1.getD i (0 : Int))) (fun i => eU8 (([a_c] : List (Int)).getD i (0 : Int)))) (.own 37001)) (Q124 x1 a_c)), (x1.length + ([a_c] : List (Int)).length = (x1 ++ ([a_c] : List (Int))).length)] hn mix (hand_in hΓ rfl) (by kernel_rfl) ⟨(av_lit rfl (fun i hi => map_get (e := eU8) (d := (0 : Int)) ([a_c] : List (Int)) i hi)), rfl, hc2, av_app, (len_app _ _), trivial⟩ ?_
  refine rgs0 (⟨[(4, (.err false))], [(30000, .row 52 [(.ptr 30000 0), (Q124 x1 a_c)]), (37001, .tok 1 5 ((x1 ++ ([a_c] : List (Int))).length))]⟩ : St) hn mix (hand_in hΓ rfl) (by kernel_rfl) ?_
  refine awp_ret ?_
  obtain rfl := Option.some.inj h
  exact ⟨.inl rfl, [(30000, 30000), (37001, 37001)], by kernel_rfl⟩

noncomputable def Q126 (x3 : (Bool × List (Int))) : List (Nat × Own) := [(30000, .row 52 [(.ptr 30000 0), (AV.list 1 eU8 (0 : Int) x3.2 (.own 37001))]), (37001, .tok 1 5 x3.2.length)]
noncomputable def Q125 (x2 : (Int × Bool × List (Int))) : List (Nat × Own) := [(30000, .row 52 [(.ptr 30000 0), (AV.list 1 eU8 (0 : Int) x2.2.2 (.own 37001))]), (37001, .tok 1 5 x2.2.2.length)]
noncomputable def m_text_putLine (a_words : List (List Int)) (a_w0_1 : List (Int)) : Option (List (Int)) :=
  ((x_Join a_words ([32] : List Int)).bind fun x1 => ((m_strings_Builder_WriteString x1 a_w0_1).bind fun x2 => ((m_strings_Builder_WriteByte (10 : Int) x2.2.2).bind fun x3 => (some x3.2))))
theorem ok_text_putLine (a_words : List (List Int)) (a_w0_1 : List (Int)) (r : List (Int)) (h : m_text_putLine a_words a_w0_1 = some r) : Spec Tryz.prog 14 [(.ptr 30000 0), (AV.list 1 eS ([] : List Int) a_words .none)] [(30000, .row 52 [.nilp, (AV.list 1 eU8 (0 : Int) a_w0_1 (.own 37001))]), (37001, .tok 1 5 a_w0_1.length)] (.tuple []) [(30000, .row 52 [(.ptr 30000 0), (AV.list 1 eU8 (0 : Int) r (.own 37001))]), (37001, .tok 1 5 r.length)] := by
  refine spec_of_awp (fn := Tryz.f14) Tryz.func14 rfl rfl (by kernel_rfl) (fun Γ hn hΓ => ?_)
  have hn : Γ.n = 10 := hn
  unfold m_text_putLine at h
  obtain ⟨x1, hx1, h⟩ := bind_some h
  obtain ⟨x2, hx2, h⟩ := bind_some h
  refine rgs [⟨[], [], (.str x1), []⟩, ⟨[(30000, 30000), (37001, 37001)], [], (.tuple [(.int .i64 x2.1), (.err x2.2.1)]), (Q125 x2)⟩] [] (⟨[(0, (.ptr 30000 0))], (Q125 x2)⟩ : St) [(Spec Tryz.prog 35 [(AV.list 1 eS ([] : List Int) a_words .none), (.str ([32] : List Int))] [] (.str x1) []), (Spec Tryz.prog 34 [(.ptr 30000 0), (.str x1)] [(30000, .row 52 [.nilp, (AV.list 1 eU8 (0 : Int) a_w0_1 (.own 37001))]), (37001, .tok 1 5 a_w0_1.length)] (.tuple [(.int .i64 x2.1), (.err x2.2.1)]) (Q125 x2))] hn mix (hand_in hΓ rfl) (by kernel_rfl) ⟨(xok_Join a_words ([32] : List Int) x1 hx1), (ok_strings_Builder_WriteString x1 a_w0_1 x2 hx2), trivial⟩ ?_
  obtain ⟨x3, hx3, h⟩ := bind_some h
  refine rg [⟨[(30000, 30000), (37001, 37001)], [], (.err x3.1), (Q126 x3)⟩] [] (⟨[], (Q126 x3)⟩ : St) [(Spec Tryz.prog 36 [(.ptr 30000 0), (.int .u8 (10 : Int))] (Q125 x2) (.err x3.1) (Q126 x3))] hn mix (hand_in hΓ rfl) (by kernel_rfl) ⟨(ok_strings_Builder_WriteByte (10 : Int) x2.2.2 x3 hx3), trivial⟩ ?_
  obtain rfl := Option.some.inj h
  exact ⟨.inr rfl, [(30000, 30000), (37001, 37001)], by kernel_rfl⟩

noncomputable def Q127 (x1 : List (Int)) : List (Nat × Own) := [(30000, .row 52 [(.ptr 30000 0), (AV.list 1 eU8 (0 : Int) x1 (.own 37001))]), (37001, .tok 1 5 x1.length)]
noncomputable def m_strings_Builder_WriteString_v2 (a_s : List Int) (a_w0_1 : List (Int)) : Option (Int × Bool × List (Int)) :=
  ((x_copyCheck a_w0_1).bind fun x1 => (chk (x1.length + a_s.length ≤ room) (some ((a_s.length : Int), false, (x1 ++ a_s)))))
theorem ok_strings_Builder_WriteString_v2 (a_s : List Int) (a_w0_1 : List (Int)) (r : (Int × Bool × List (Int))) (h : m_strings_Builder_WriteString_v2 a_s a_w0_1 = some r) : Spec Tryz.prog 34 [(.ptr 30000 0), (.str a_s)] [(30000, .row 52 [(.ptr 30000 0), (AV.list 1 eU8 (0 : Int) a_w0_1 (.own 37001))]), (37001, .tok 1 5 a_w0_1.length)] (.tuple [(.int .i64 r.1), (.err r.2.1)]) [(30000, .row 52 [(.ptr 30000 0), (AV.list 1 eU8 (0 : Int) r.2.2 (.own 37001))]), (37001, .tok 1 5 r.2.2.length)] := by
  refine spec_of_awp (fn := Tryz.f34) Tryz.func34 rfl rfl (by kernel_rfl) (fun Γ hn hΓ => ?_)
  have hn : Γ.n = 19 := hn
  unfold m_strings_Builder_WriteString_v2 at h
  refine rgs0 (⟨[(0, (.ptr 30000 0)), (1, (.str a_s))], [(30000, .row 52 [(.ptr 30000 0), (AV.list 1 eU8 (0 : Int) a_w0_1 (.own 37001))]), (37001, .tok 1 5 a_w0_1.length)]⟩ : St) hn mix (hand_in hΓ rfl) (by kernel_rfl) ?_
  obtain ⟨x1, hx1, h⟩ := bind_some h
  refine rgs [⟨[(30000, 30000), (37001, 37001)], [], (.tuple []), (Q127 x1)⟩] [] (⟨[(0, (.ptr 30000 0)), (1, (.str a_s))], (Q127 x1)⟩ : St) [(Spec Tryz.prog 59 [(.ptr 30000 0)] [(30000, .row 52 [(.ptr 30000 0), (AV.list 1 eU8 (0 : Int) a_w0_1 (.own 37001))]), (37001, .tok 1 5 a_w0_1.length)] (.tuple []) (Q127 x1))] hn mix (hand_in hΓ rfl) (by kernel_rfl) ⟨(xok_copyCheckP a_w0_1 x1 hx1), trivial⟩ ?_
  obtain ⟨hc2, h⟩ := chk_some h
  refine rgs [] [(14, (AV.list 1 eU8 (0 : Int) (x1 ++ a_s) (.own 37001)))] (⟨[(1, (.str a_s))], [(30000, .row 52 [(.ptr 30000 0), (AV.list 1 eU8 (0 : Int) (x1 ++ a_s) (.own 37001))]), (37001, .tok 1 5 ((x1 ++ a_s).length))]⟩ : St) [(x1.length = x1.length), (x1.length + a_s.length ≤ room), (AVle (.slice 1 (x1.length + a_s.length) (appF x1.length (fun i => eU8 (x1.getD i (0 : Int))) (strF a_s)) (.own 37001)) (AV.list 1 eU8 (0 : Int) (x1 ++ a_s) (.own 37001))), (x1.length + a_s.length = (x1 ++ a_s).length)] hn mix (hand_in hΓ rfl) (by kernel_rfl) ⟨rfl, hc2, (av_app (e := eU8) (d := (0 : Int)) (l := x1) (m := a_s)), (len_app _ _), trivial⟩ ?_
  refine rgs0 (⟨[(4, (.int .i64 (a_s.length : Int))), (5, (.err false))], [(30000, .row 52 [(.ptr 30000 0), (AV.list 1 eU8 (0 : Int) (x1 ++ a_s) (.own 37001))]), (37001, .tok 1 5 ((x1 ++ a_s).length))]⟩ : St) hn mix (hand_in hΓ rfl) (by kernel_rfl) ?_
  refine awp_ret ?_
  obtain rfl := Option.some.inj h
  exact ⟨.inl rfl, [(30000, 30000), (37001, 37001)], by kernel_rfl⟩

noncomputable def Q129 (x3 : (Bool × List (Int))) : List (Nat × Own) := [(30000, .row 52 [(.ptr 30000 0), (AV.list 1 eU8 (0 : Int) x3.2 (.own 37001))]), (37001, .tok 1 5 x3.2.length)]
noncomputable def Q128 (x2 : (Int × Bool × List (Int))) : List (Nat × Own) := [(30000, .row 52 [(.ptr 30000 0), (AV.list 1 eU8 (0 : Int) x2.2.2 (.own 37001))]), (37001, .tok 1 5 x2.2.2.length)]
noncomputable def m_text_putLine_v2 (a_words : List (List Int)) (a_w0_1 : List (Int)) : Option (List (Int)) :=
  ((x_Join a_words ([32] : List Int)).bind fun x1 => ((m_strings_Builder_WriteString_v2 x1 a_w0_1).bind fun x2 => ((m_strings_Builder_WriteByte (10 : Int) x2.2.2).bind fun x3 => (some x3.2))))
theorem ok_text_putLine_v2 (a_words : List (List Int)) (a_w0_1 : List (Int)) (r : List (Int)) (h : m_text_putLine_v2 a_words a_w0_1 = some r) : Spec Tryz.prog 14 [(.ptr 30000 0), (AV.list 1 eS ([] : List Int) a_words .none)] [(30000, .row 52 [(.ptr 30000 0), (AV.list 1 eU8 (0 : Int) a_w0_1 (.own 37001))]), (37001, .tok 1 5 a_w0_1.length)] (.tuple []) [(30000, .row 52 [(.ptr 30000 0), (AV.list 1 eU8 (0 : Int) r (.own 37001))]), (37001, .tok 1 5 r.length)] := by
  refine spec_of_awp (fn := Tryz.f14) Tryz.func14 rfl rfl (by kernel_rfl) (fun Γ hn hΓ => ?_)
  have hn : Γ.n = 10 := hn
  unfold m_text_putLine_v2 at h
  obtain ⟨x1, hx1, h⟩ := bind_some h
  obtain ⟨x2, hx2, h⟩ := bind_some h
  refine rgs [⟨[], [], (.str x1), []⟩, ⟨[(30000, 30000), (37001, 37001)], [], (.tuple [(.int .i64 x2.1), (.err x2.2.1)]), (Q128 x2)⟩] [] (⟨[(0, (.ptr 30000 0))], (Q128 x2)⟩ : St) [(Spec Tryz.prog 35 [(AV.list 1 eS ([] : List Int) a_words .none), (.str ([32] : List Int))] [] (.str x1) []), (Spec Tryz.prog 34 [(.ptr 30000 0), (.str x1)] [(30000, .row 52 [(.ptr 30000 0), (AV.list 1 eU8 (0 : Int) a_w0_1 (.own 37001))]), (37001, .tok 1 5 a_w0_1.length)] (.tuple [(.int .i64 x2.1), (.err x2.2.1)]) (Q128 x2))] hn mix (hand_in hΓ rfl) (by kernel_rfl) ⟨(xok_Join a_words ([32] : List Int) x1 hx1), (ok_strings_Builder_WriteString_v2 x1 a_w0_1 x2 hx2), trivial⟩ ?_
  obtain ⟨x3, hx3, h⟩ := bind_some h
  refine rg [⟨[(30000, 30000), (37001, 37001)], [], (.err x3.1), (Q129 x3)⟩] [] (⟨[], (Q129 x3)⟩ : St) [(Spec Tryz.prog 36 [(.ptr 30000 0), (.int .u8 (10 : Int))] (Q128 x2) (.err x3.1) (Q129 x3))] hn mix (hand_in hΓ rfl) (by kernel_rfl) ⟨(ok_strings_Builder_WriteByte (10 : Int) x2.2.2 x3 hx3), trivial⟩ ?_
  obtain rfl := Option.some.inj h
  exact ⟨.inr rfl, [(30000, 30000), (37001, 37001)], by kernel_rfl⟩

noncomputable def m_text_Print_L1 (a_f : TFunc) (i6 : Int) : (Int × List (Int)) → Option (LR (Int × List (Int)) (List (Int))) :=
  fun ((i11, l12) : (Int × List (Int))) => (bif (decide ((i11 : Int) < (((a_f.Blocks.getD (i6).toNat (default : TBlock)).Phis).length : Int))) then (chk (InB i11 ((a_f.Blocks.getD (i6).toNat (default : TBlock)).Phis).length) ((m_text_number ((((a_f.Blocks.getD (i6).toNat (default : TBlock)).Phis).getD (i11).toNat (default : TPhi)).Bits)).bind fun x15 => ((m_text_number ((((a_f.Blocks.getD (i6).toNat (default : TBlock)).Phis).getD (i11).toNat (default : TPhi)).Dst)).bind fun x16 => ((m_text_list ((((a_f.Blocks.getD (i6).toNat (default : TBlock)).Phis).getD (i11).toNat (default : TPhi)).From)).bind fun x17 => ((m_text_list ((((a_f.Blocks.getD (i6).toNat (default : TBlock)).Phis).getD (i11).toNat (default : TPhi)).Args)).bind fun x18 => ((m_text_putLine_v2 ([([112, 104, 105] : List Int), x15, x16, x17, x18] : List (List Int)) l12).bind fun x19 => (some (.next ((w64 (i11 + (1 : Int))), x19))))))))) else (some (.done l12)))
noncomputable def m_text_Print_L2 (a_f : TFunc) (i6 : Int) : (Int × List (Int)) → Option (LR (Int × List (Int)) (List (Int))) :=
  fun ((i22, l23) : (Int × List (Int))) => (bif (decide ((i22 : Int) < (((a_f.Blocks.getD (i6).toNat (default : TBlock)).Ops).length : Int))) then (chk (InB i22 ((a_f.Blocks.getD (i6).toNat (default : TBlock)).Ops).length) (chk (InB (((a_f.Blocks.getD (i6).toNat (default : TBlock)).Ops).getD (i22).toNat (default : TOp)).Kind 23) ((m_text_number ((((a_f.Blocks.getD (i6).toNat (default : TBlock)).Ops).getD (i22).toNat (default : TOp)).Bits)).bind fun x27 => ((m_text_number ((((a_f.Blocks.getD (i6).toNat (default : TBlock)).Ops).getD (i22).toNat (default : TOp)).Lanes)).bind fun x28 => ((m_text_number ((((a_f.Blocks.getD (i6).toNat (default : TBlock)).Ops).getD (i22).toNat (default : TOp)).Dst)).bind fun x29 => ((m_text_list ((((a_f.Blocks.getD (i6).toNat (default : TBlock)).Ops).getD (i22).toNat (default : TOp)).Args)).bind fun x30 => ((x_FormatUint ((((a_f.Blocks.getD (i6).toNat (default : TBlock)).Ops).getD (i22).toNat (default : TOp)).Imm) (10 : Int)).bind fun x31 => ((m_text_putLine_v2 ([(gl0.getD ((((a_f.Blocks.getD (i6).toNat (default : TBlock)).Ops).getD (i22).toNat (default : TOp)).Kind).toNat []), x27, x28, x29, x30, x31] : List (List Int)) l23).bind fun x32 => (some (.next ((w64 (i22 + (1 : Int))), x32))))))))))) else (some (.done l23)))
noncomputable def m_text_Print_L3 (a_f : TFunc) : (Int × List (Int)) → Option (LR (Int × List (Int)) (List (Int))) :=
  fun ((i6, l7) : (Int × List (Int))) => (bif (decide ((i6 : Int) < (a_f.Blocks.length : Int))) then (chk (InB i6 a_f.Blocks.length) ((m_text_putLine_v2 ([([98, 108, 111, 99, 107] : List Int)] : List (List Int)) l7).bind fun x10 => ((loopO (S := (Int × List (Int))) (X := List (Int)) (m_text_Print_L1 a_f i6) ((0 : Int), x10)).bind (fun x20 => (((loopO (S := (Int × List (Int))) (X := List (Int)) (m_text_Print_L2 a_f i6) ((0 : Int), x20)).bind (fun x33 => ((chk (InB (a_f.Blocks.getD (i6).toNat (default : TBlock)).End.Kind 4) ((m_text_number ((a_f.Blocks.getD (i6).toNat (default : TBlock)).End.Arg)).bind fun x36 => ((m_text_list ((a_f.Blocks.getD (i6).toNat (default : TBlock)).End.To)).bind fun x37 => ((m_text_putLine_v2 ([(gl1.getD ((a_f.Blocks.getD (i6).toNat (default : TBlock)).End.Kind).toNat []), x36, x37] : List (List Int)) x33).bind fun x38 => (some (.next ((w64 (i6 + (1 : Int))), x38))))))))))))))) else (some (.done l7)))
noncomputable def Q134 (a_f : TFunc) : AV := (.int .i64 (a_f.Blocks.length : Int))
noncomputable def Q142 (a_f : TFunc) (i6 : Int) := (a_f.Blocks.getD (i6).toNat (default : TBlock))
noncomputable def Q133 (a_f : TFunc) (i6 : Int) := ((Q142 a_f i6).Phis)
noncomputable def Q149 (a_f : TFunc) (i6 : Int) : AV := (.int .i64 ((Q133 a_f i6).length : Int))
noncomputable def Q138 (a_f : TFunc) : AV := (AV.list 1 eI64 (0 : Int) a_f.Params .none)
noncomputable def Q131 (a_f : TFunc) (i6 : Int) (i22 : Int) := (((Q142 a_f i6).Ops).getD (i22).toNat (default : TOp))
noncomputable def Q144 (a_f : TFunc) (i6 : Int) (i22 : Int) := (gl0.getD ((Q131 a_f i6 i22).Kind).toNat [])
noncomputable def Q132 (a_f : TFunc) : AV := (AV.list 5 eTBlock (default : TBlock) a_f.Blocks .none)
noncomputable def Q148 (a_f : TFunc) : List AV := [(Q138 a_f), (.int .i64 a_f.Ret), (Q132 a_f)]
noncomputable def Q143 (a_f : TFunc) (i6 : Int) (i11 : Int) := ((Q133 a_f i6).getD (i11).toNat (default : TPhi))
noncomputable def Q156 (a_f : TFunc) (i6 : Int) : AV := (AV.list 6 eTOp (default : TOp) (Q142 a_f i6).Ops .none)
noncomputable def Q140 := ([([98, 108, 111, 99, 107] : List Int)] : List (List Int))
noncomputable def Q155 (a_f : TFunc) (i6 : Int) : AV := (AV.list 4 eTPhi (default : TPhi) (Q142 a_f i6).Phis .none)
noncomputable def Q139 (x3 : List Int) (x4 : List Int) := ([([102, 117, 110, 99] : List Int), x3, x4] : List (List Int))
noncomputable def Q136 (a_f : TFunc) (i6 : Int) := (((Q142 a_f i6).Ops).length : Int)
noncomputable def Q137 (x15 : List Int) (x16 : List Int) (x17 : List Int) (x18 : List Int) := ([([112, 104, 105] : List Int), x15, x16, x17, x18] : List (List Int))
noncomputable def Q150 (a_f : TFunc) (i6 : Int) : List (Nat × AV) := [(4, (.ptr 4 0)), (28, (Q132 a_f)), (29, (Q134 a_f)), (30, (.int .i64 i6))]
noncomputable def Q135 (a_f : TFunc) (i6 : Int) := (gl1.getD ((Q142 a_f i6).End.Kind).toNat [])
noncomputable def Q145 (a_f : TFunc) (i6 : Int) : List (Nat × AV) := [(4, (.ptr 4 0)), (6, (.ptr 6 0)), (28, (Q132 a_f)), (29, (Q134 a_f)), (30, (.int .i64 i6))]
noncomputable def Q141 (l7 : List (Int)) : List (Nat × Own) := [(4, .row 52 [(.ptr 4 0), (AV.list 1 eU8 (0 : Int) l7 (.own 50401))]), (50401, .tok 1 5 l7.length)]
noncomputable def Q154 (a_f : TFunc) := (⟨[(1, (.ptr 1 0)), (4, (.ptr 4 0))], [(1, .row 25 (Q148 a_f)), (4, .row 52 [.nilp, (.slice 0 0 (fun _ => []) .exact)])]⟩ : St)
noncomputable def Q130 (a_f : TFunc) (i6 : Int) : List AV := [(Q155 a_f i6), (Q156 a_f i6), (.int .i64 (Q142 a_f i6).End.Kind), (.int .i64 (Q142 a_f i6).End.Arg), (AV.list 1 eI64 (0 : Int) (Q142 a_f i6).End.To .none)]
noncomputable def Q146 (l12 : List (Int)) (a_f : TFunc) (i6 : Int) : List (Nat × Own) := [(4, .row 52 [(.ptr 4 0), (AV.list 1 eU8 (0 : Int) l12 (.own 50401))]), (6, .row 47 (Q130 a_f i6)), (50401, .tok 1 5 l12.length)]
noncomputable def Q147 (l23 : List (Int)) (a_f : TFunc) (i6 : Int) : List (Nat × Own) := [(4, .row 52 [(.ptr 4 0), (AV.list 1 eU8 (0 : Int) l23 (.own 50401))]), (6, .row 47 (Q130 a_f i6)), (50401, .tok 1 5 l23.length)]
noncomputable def Q153 (a_f : TFunc) := (⟨[(1, (.ptr 1 0)), (4, (.ptr 4 0))], [(1, .row 25 (Q148 a_f)), (4, .row 52 [.nilp, (AV.list 1 eU8 (0 : Int) ([] : List Int) (.own 50401))]), (50401, .tok 1 5 (([] : List Int).length))]⟩ : St)
noncomputable def Q152 (a_f : TFunc) (i6 : Int) (i11 : Int) : List (Nat × AV) := [(4, (.ptr 4 0)), (6, (.ptr 6 0)), (28, (Q132 a_f)), (29, (Q134 a_f)), (30, (.int .i64 i6)), (37, (Q155 a_f i6)), (38, (Q149 a_f i6)), (39, (.int .i64 i11))]
noncomputable def Q151 (a_f : TFunc) (i6 : Int) (i22 : Int) : List (Nat × AV) := [(4, (.ptr 4 0)), (6, (.ptr 6 0)), (28, (Q132 a_f)), (29, (Q134 a_f)), (30, (.int .i64 i6)), (59, (Q156 a_f i6)), (60, (.int .i64 (Q136 a_f i6))), (61, (.int .i64 i22))]
noncomputable def m_text_Print (a_f : TFunc) : Option (List Int × Int) :=
  ((m_code_May a_f).bind fun x1 => ((bif ((!x1) == false) then m_text_hasNames a_f else some false).bind fun x2 => (bif (bif (!x1) then true else (!x2)) then (some (([] : List Int), (1 : Int))) else ((m_text_list a_f.Params).bind fun x3 => ((m_text_number a_f.Ret).bind fun x4 => ((m_text_putLine ([([102, 117, 110, 99] : List Int), x3, x4] : List (List Int)) ([] : List Int)).bind fun x5 => ((loopO (S := (Int × List (Int))) (X := List (Int)) (m_text_Print_L3 a_f) ((0 : Int), x5)).bind (fun x39 => (((x_String x39).bind fun x41 => (some (x41.1, (0 : Int)))))))))))))
theorem ok_text_Print (a_f : TFunc) (r : (List Int × Int)) (h : m_text_Print a_f = some r) : Spec Tryz.prog 6 [(.agg (eTFunc a_f))] [] (.tuple [(.str r.1), (.int .i64 r.2)]) [] := by
  refine spec_of_awp (fn := Tryz.f6) Tryz.func6 rfl rfl (by kernel_rfl) (fun Γ hn hΓ => ?_)
  have hn : Γ.n = 104 := hn
  unfold m_text_Print at h
  refine rgs0 (⟨[(1, (.ptr 1 0))], [(1, .row 25 (Q148 a_f))]⟩ : St) hn mix (no_hand hΓ) (by kernel_rfl) ?_
  refine awp_seq ?_
  obtain ⟨x1, hx1, h⟩ := bind_some h
  obtain ⟨x2, hx2, h⟩ := bind_some h
  refine rgs [⟨[], [], (.bool x1), []⟩, ⟨[], [], (.bool x2), []⟩] [] (⟨[(1, (.ptr 1 0)), (18, (.bool (bif (!x1) then true else (!x2))))], [(1, .row 25 (Q148 a_f))]⟩ : St) [(Spec Tryz.prog 12 [(.agg (eTFunc a_f))] [] (.bool x1) []), (((!x1) == false) = true → ((!x1) == false) = true), (((!x1) == false) = true → (Spec Tryz.prog 13 [(.agg (eTFunc a_f))] [] (.bool x2) [])), (((!x1) == false) = true → ((!x1) == false) = true), ((!x1) = false → ((!x1) == false) = true)] hn mix (no_hand hΓ) (by kernel_rfl) ⟨(ok_code_May a_f x1 hx1), (fun hg => hg), (fun hg => (ok_text_hasNames a_f x2 (cond_t hg hx2))), (fun hg => hg), gF, trivial⟩ ?_
  refine awp_cond (bif (!x1) then true else (!x2)) (by kernel_rfl) (fun hb => ?_) (fun hb => ?_)
  · replace h := cond_t hb h
    clear hb
    refine rgs0 (⟨[(2, (.str ([] : List Int))), (3, (.int .i64 (1 : Int)))], []⟩ : St) hn mix (no_hand hΓ) (by kernel_rfl) ?_
    refine awp_ret ?_
    refine then_ret ?_
    obtain rfl := Option.some.inj h
    exact ⟨.inl rfl, [], by kernel_rfl⟩
  · replace h := cond_f hb h
    clear hb
    refine awp_skip ?_
    refine then_normal ?_
    refine rgs0 (Q154 a_f) hn mix (no_hand hΓ) (by kernel_rfl) ?_
    refine awp_seq ?_
    refine awp_le (st' := (Q153 a_f)) (Le.trans (le_restrict_eq (st' := (Q154 a_f)) [1, 4] [1, 4] (by kernel_rfl) (no_hand hΓ)) (Le.trans (le_tag_cell (r := 4) (j := 1) (nm := 50401) (sz' := 1) (fun i => eU8 (([] : List Int).getD i (0 : Int))) 5 rfl rfl (nl rfl) rfl (.inr rfl) (fun _ => rfl)) (le_restrict_eq (st' := (Q153 a_f)) [1, 4] [1, 4, 50401] (by kernel_rfl) (no_hand hΓ)))) ?_
    obtain ⟨x3, hx3, h⟩ := bind_some h
    obtain ⟨x4, hx4, h⟩ := bind_some h
    obtain ⟨x5, hx5, h⟩ := bind_some h
    refine rg [⟨[], [], (.str x3), []⟩, ⟨[], [], (.str x4), []⟩, ⟨[(4, 30000), (50401, 37001)], [], (.tuple []), [(30000, .row 52 [(.ptr 30000 0), (AV.list 1 eU8 (0 : Int) x5 (.own 37001))]), (37001, .tok 1 5 x5.length)]⟩] [(25, (AV.list 1 eS ([] : List Int) (Q139 x3 x4) .exact))] (⟨[(1, (.ptr 1 0)), (4, (.ptr 4 0))], [(1, .row 25 (Q148 a_f)), (4, .row 52 [(.ptr 4 0), (AV.list 1 eU8 (0 : Int) x5 (.own 50401))]), (50401, .tok 1 5 x5.length)]⟩ : St) [(Spec Tryz.prog 15 [(Q138 a_f)] [] (.str x3) []), (Spec Tryz.prog 16 [(.int .i64 a_f.Ret)] [] (.str x4) []), (AVle (.slice 1 3 (fun i => ([[(.str ([102, 117, 110, 99] : List Int))], [(.str x3)], [(.str x4)]] : List (List AV)).getD i []) .exact) (AV.list 1 eS ([] : List Int) (Q139 x3 x4) .exact)), (Spec Tryz.prog 14 [(.ptr 30000 0), (AV.list 1 eS ([] : List Int) (Q139 x3 x4) .none)] [(30000, .row 52 [.nilp, (AV.list 1 eU8 (0 : Int) ([] : List Int) (.own 37001))]), (37001, .tok 1 5 (([] : List Int).length))] (.tuple []) [(30000, .row 52 [(.ptr 30000 0), (AV.list 1 eU8 (0 : Int) x5 (.own 37001))]), (37001, .tok 1 5 x5.length)])] hn mix (no_hand hΓ) (by kernel_rfl) ⟨(ok_text_list a_f.Params x3 hx3), (ok_text_number a_f.Ret x4 hx4), (av_lit rfl (fun i hi => map_get (e := eS) (d := ([] : List Int)) (Q139 x3 x4) i hi)), (ok_text_putLine (Q139 x3 x4) ([] : List Int) x5 hx5), trivial⟩ ?_
    refine then_normal ?_
    refine awp_seq ?_
    refine rgs0 (⟨[(4, (.ptr 4 0)), (28, (Q132 a_f)), (29, (Q134 a_f)), (30, (.int .i64 (0 : Int)))], [(4, .row 52 [(.ptr 4 0), (AV.list 1 eU8 (0 : Int) x5 (.own 50401))]), (50401, .tok 1 5 x5.length)]⟩ : St) hn mix (no_hand hΓ) (by kernel_rfl) ?_
    refine awp_block ?_
    refine awp_le (st' := (fun ((i6, l7) : (Int × List (Int))) => (⟨(Q150 a_f i6), (Q141 l7)⟩ : St)) ((0 : Int), x5)) (Le.refl _ _) ?_
    obtain ⟨x39, hx39, h⟩ := bind_some h
    refine awp_loop (fun ((i6, l7) : (Int × List (Int))) => (⟨(Q150 a_f i6), (Q141 l7)⟩ : St)) _ (fun (l8 : List (Int)) (e : Exit) (st : St) => e = (.exit 0) ∧ Le Γ st (⟨[(4, (.ptr 4 0))], [(4, .row 52 [(.ptr 4 0), (AV.list 1 eU8 (0 : Int) l8 (.own 50401))]), (50401, .tok 1 5 l8.length)]⟩ : St)) ?_ hx39 ?_
    · rintro ⟨i6, l7⟩ y h
      unfold m_text_Print_L3 at h
      refine rgs0 (⟨[(4, (.ptr 4 0)), (28, (Q132 a_f)), (29, (Q134 a_f)), (30, (.int .i64 i6)), (31, (.bool (decide ((i6 : Int) < (a_f.Blocks.length : Int)))))], (Q141 l7)⟩ : St) hn mix (no_hand hΓ) (by kernel_rfl) ?_
      refine awp_seq ?_
      refine awp_cond (decide ((i6 : Int) < (a_f.Blocks.length : Int))) (by kernel_rfl) (fun hb => ?_) (fun hb => ?_)
      · replace h := cond_t hb h
        clear hb
        refine awp_skip ?_
        refine then_normal ?_
        refine awp_seq ?_
        refine awp_block ?_
        obtain ⟨hc9, h⟩ := chk_some h
        refine rgs [] [] (⟨(Q145 a_f i6), [(4, .row 52 [(.ptr 4 0), (AV.list 1 eU8 (0 : Int) l7 (.own 50401))]), (6, .row 47 (Q130 a_f i6)), (50401, .tok 1 5 l7.length)]⟩ : St) [(InB i6 a_f.Blocks.length)] hn mix (no_hand hΓ) (by kernel_rfl) ⟨hc9, trivial⟩ ?_
        obtain ⟨x10, hx10, h⟩ := bind_some h
        refine rgs [⟨[(4, 30000), (50401, 37001)], [], (.tuple []), [(30000, .row 52 [(.ptr 30000 0), (AV.list 1 eU8 (0 : Int) x10 (.own 37001))]), (37001, .tok 1 5 x10.length)]⟩] [(34, (AV.list 1 eS ([] : List Int) Q140 .exact))] (⟨(Q145 a_f i6), [(4, .row 52 [(.ptr 4 0), (AV.list 1 eU8 (0 : Int) x10 (.own 50401))]), (6, .row 47 (Q130 a_f i6)), (50401, .tok 1 5 x10.length)]⟩ : St) [(AVle (.slice 1 1 (fun i => ([[(.str ([98, 108, 111, 99, 107] : List Int))]] : List (List AV)).getD i []) .exact) (AV.list 1 eS ([] : List Int) Q140 .exact)), (Spec Tryz.prog 14 [(.ptr 30000 0), (AV.list 1 eS ([] : List Int) Q140 .none)] [(30000, .row 52 [(.ptr 30000 0), (AV.list 1 eU8 (0 : Int) l7 (.own 37001))]), (37001, .tok 1 5 l7.length)] (.tuple []) [(30000, .row 52 [(.ptr 30000 0), (AV.list 1 eU8 (0 : Int) x10 (.own 37001))]), (37001, .tok 1 5 x10.length)])] hn mix (no_hand hΓ) (by kernel_rfl) ⟨(av_lit rfl (fun i hi => map_get (e := eS) (d := ([] : List Int)) Q140 i hi)), (ok_text_putLine_v2 Q140 l7 x10 hx10), trivial⟩ ?_
        refine awp_seq ?_
        refine rgs0 (⟨[(4, (.ptr 4 0)), (6, (.ptr 6 0)), (28, (Q132 a_f)), (29, (Q134 a_f)), (30, (.int .i64 i6)), (37, (Q155 a_f i6)), (38, (Q149 a_f i6)), (39, (.int .i64 (0 : Int)))], [(4, .row 52 [(.ptr 4 0), (AV.list 1 eU8 (0 : Int) x10 (.own 50401))]), (6, .row 47 (Q130 a_f i6)), (50401, .tok 1 5 x10.length)]⟩ : St) hn mix (no_hand hΓ) (by kernel_rfl) ?_
        refine awp_block ?_
        refine awp_le (st' := (fun ((i11, l12) : (Int × List (Int))) => (⟨(Q152 a_f i6 i11), (Q146 l12 a_f i6)⟩ : St)) ((0 : Int), x10)) (Le.refl _ _) ?_
        obtain ⟨x20, hx20, h⟩ := bind_some h
        refine awp_loop (fun ((i11, l12) : (Int × List (Int))) => (⟨(Q152 a_f i6 i11), (Q146 l12 a_f i6)⟩ : St)) _ (fun (l13 : List (Int)) (e : Exit) (st : St) => e = (.exit 2) ∧ Le Γ st (⟨(Q145 a_f i6), [(4, .row 52 [(.ptr 4 0), (AV.list 1 eU8 (0 : Int) l13 (.own 50401))]), (6, .row 47 (Q130 a_f i6)), (50401, .tok 1 5 l13.length)]⟩ : St)) ?_ hx20 ?_
        · rintro ⟨i11, l12⟩ y h
          unfold m_text_Print_L1 at h
          refine rgs0 (⟨[(4, (.ptr 4 0)), (6, (.ptr 6 0)), (28, (Q132 a_f)), (29, (Q134 a_f)), (30, (.int .i64 i6)), (37, (Q155 a_f i6)), (38, (Q149 a_f i6)), (39, (.int .i64 i11)), (40, (.bool (decide ((i11 : Int) < ((Q133 a_f i6).length : Int)))))], (Q146 l12 a_f i6)⟩ : St) hn mix (no_hand hΓ) (by kernel_rfl) ?_
          refine awp_seq ?_
          refine awp_cond (decide ((i11 : Int) < ((Q133 a_f i6).length : Int))) (by kernel_rfl) (fun hb => ?_) (fun hb => ?_)
          · replace h := cond_t hb h
            clear hb
            refine awp_skip ?_
            refine then_normal ?_
            refine awp_seq ?_
            refine awp_block ?_
            obtain ⟨hc14, h⟩ := chk_some h
            refine rgs [] [] (⟨[(4, (.ptr 4 0)), (6, (.ptr 6 0)), (8, (.ptr 8 0)), (28, (Q132 a_f)), (29, (Q134 a_f)), (30, (.int .i64 i6)), (37, (Q155 a_f i6)), (38, (Q149 a_f i6)), (39, (.int .i64 i11))], [(4, .row 52 [(.ptr 4 0), (AV.list 1 eU8 (0 : Int) l12 (.own 50401))]), (6, .row 47 (Q130 a_f i6)), (8, .row 49 [(.int .i64 (Q143 a_f i6 i11).Bits), (.int .i64 (Q143 a_f i6 i11).Dst), (AV.list 1 eI64 (0 : Int) (Q143 a_f i6 i11).From .none), (AV.list 1 eI64 (0 : Int) (Q143 a_f i6 i11).Args .none)]), (50401, .tok 1 5 l12.length)]⟩ : St) [(InB i11 (Q133 a_f i6).length)] hn mix (no_hand hΓ) (by kernel_rfl) ⟨hc14, trivial⟩ ?_
            obtain ⟨x15, hx15, h⟩ := bind_some h
            obtain ⟨x16, hx16, h⟩ := bind_some h
            obtain ⟨x17, hx17, h⟩ := bind_some h
            obtain ⟨x18, hx18, h⟩ := bind_some h
            obtain ⟨x19, hx19, h⟩ := bind_some h
            refine rg [⟨[], [], (.str x15), []⟩, ⟨[], [], (.str x16), []⟩, ⟨[], [], (.str x17), []⟩, ⟨[], [], (.str x18), []⟩, ⟨[(4, 30000), (50401, 37001)], [], (.tuple []), [(30000, .row 52 [(.ptr 30000 0), (AV.list 1 eU8 (0 : Int) x19 (.own 37001))]), (37001, .tok 1 5 x19.length)]⟩] [(55, (AV.list 1 eS ([] : List Int) (Q137 x15 x16 x17 x18) .exact))] (⟨(Q152 a_f i6 i11), [(4, .row 52 [(.ptr 4 0), (AV.list 1 eU8 (0 : Int) x19 (.own 50401))]), (6, .row 47 (Q130 a_f i6)), (50401, .tok 1 5 x19.length)]⟩ : St) [(Spec Tryz.prog 16 [(.int .i64 (Q143 a_f i6 i11).Bits)] [] (.str x15) []), (Spec Tryz.prog 16 [(.int .i64 (Q143 a_f i6 i11).Dst)] [] (.str x16) []), (Spec Tryz.prog 15 [(AV.list 1 eI64 (0 : Int) (Q143 a_f i6 i11).From .none)] [] (.str x17) []), (Spec Tryz.prog 15 [(AV.list 1 eI64 (0 : Int) (Q143 a_f i6 i11).Args .none)] [] (.str x18) []), (AVle (.slice 1 5 (fun i => ([[(.str ([112, 104, 105] : List Int))], [(.str x15)], [(.str x16)], [(.str x17)], [(.str x18)]] : List (List AV)).getD i []) .exact) (AV.list 1 eS ([] : List Int) (Q137 x15 x16 x17 x18) .exact)), (Spec Tryz.prog 14 [(.ptr 30000 0), (AV.list 1 eS ([] : List Int) (Q137 x15 x16 x17 x18) .none)] [(30000, .row 52 [(.ptr 30000 0), (AV.list 1 eU8 (0 : Int) l12 (.own 37001))]), (37001, .tok 1 5 l12.length)] (.tuple []) [(30000, .row 52 [(.ptr 30000 0), (AV.list 1 eU8 (0 : Int) x19 (.own 37001))]), (37001, .tok 1 5 x19.length)])] hn mix (no_hand hΓ) (by kernel_rfl) ⟨(ok_text_number ((Q143 a_f i6 i11).Bits) x15 hx15), (ok_text_number ((Q143 a_f i6 i11).Dst) x16 hx16), (ok_text_list ((Q143 a_f i6 i11).From) x17 hx17), (ok_text_list ((Q143 a_f i6 i11).Args) x18 hx18), (av_lit rfl (fun i hi => map_get (e := eS) (d := ([] : List Int)) (Q137 x15 x16 x17 x18) i hi)), (ok_text_putLine_v2 (Q137 x15 x16 x17 x18) l12 x19 hx19), trivial⟩ ?_
            refine block_normal ?_
            refine then_normal ?_
            refine rg0 (⟨[(4, (.ptr 4 0)), (6, (.ptr 6 0)), (28, (Q132 a_f)), (29, (Q134 a_f)), (30, (.int .i64 i6)), (37, (Q155 a_f i6)), (38, (Q149 a_f i6)), (39, (.int .i64 (w64 (i11 + (1 : Int)))))], [(4, .row 52 [(.ptr 4 0), (AV.list 1 eU8 (0 : Int) x19 (.own 50401))]), (6, .row 47 (Q130 a_f i6)), (50401, .tok 1 5 x19.length)]⟩ : St) hn mix (no_hand hΓ) (by kernel_rfl) ?_
            obtain rfl := Option.some.inj h
            exact ⟨rfl, Le.refl _ _⟩
          · replace h := cond_f hb h
            clear hb
            refine awp_exit ?_
            refine then_exit ?_
            obtain rfl := Option.some.inj h
            exact ⟨(by intro hh; cases hh), rfl, le_restrict_eq [4, 6, 28, 29, 30] [4, 6, 50401] (by kernel_rfl) (no_hand hΓ)⟩
        · clear hx20
          rintro e st' ⟨rfl, hl21⟩
          refine block_here ?_
          refine then_normal ?_
          refine awp_le hl21 ?_
          refine awp_seq ?_
          refine rgs0 (⟨[(4, (.ptr 4 0)), (6, (.ptr 6 0)), (28, (Q132 a_f)), (29, (Q134 a_f)), (30, (.int .i64 i6)), (59, (Q156 a_f i6)), (60, (.int .i64 (Q136 a_f i6))), (61, (.int .i64 (0 : Int)))], [(4, .row 52 [(.ptr 4 0), (AV.list 1 eU8 (0 : Int) x20 (.own 50401))]), (6, .row 47 (Q130 a_f i6)), (50401, .tok 1 5 x20.length)]⟩ : St) hn mix (no_hand hΓ) (by kernel_rfl) ?_
          refine awp_block ?_
          refine awp_le (st' := (fun ((i22, l23) : (Int × List (Int))) => (⟨(Q151 a_f i6 i22), (Q147 l23 a_f i6)⟩ : St)) ((0 : Int), x20)) (Le.refl _ _) ?_
          obtain ⟨x33, hx33, h⟩ := bind_some h
          refine awp_loop (fun ((i22, l23) : (Int × List (Int))) => (⟨(Q151 a_f i6 i22), (Q147 l23 a_f i6)⟩ : St)) _ (fun (l24 : List (Int)) (e : Exit) (st : St) => e = (.exit 4) ∧ Le Γ st (⟨(Q145 a_f i6), [(4, .row 52 [(.ptr 4 0), (AV.list 1 eU8 (0 : Int) l24 (.own 50401))]), (6, .row 47 (Q130 a_f i6)), (50401, .tok 1 5 l24.length)]⟩ : St)) ?_ hx33 ?_
          · rintro ⟨i22, l23⟩ y h
            unfold m_text_Print_L2 at h
            refine rgs0 (⟨[(4, (.ptr 4 0)), (6, (.ptr 6 0)), (28, (Q132 a_f)), (29, (Q134 a_f)), (30, (.int .i64 i6)), (59, (Q156 a_f i6)), (60, (.int .i64 (Q136 a_f i6))), (61, (.int .i64 i22)), (62, (.bool (decide ((i22 : Int) < (Q136 a_f i6)))))], (Q147 l23 a_f i6)⟩ : St) hn mix (no_hand hΓ) (by kernel_rfl) ?_
            refine awp_seq ?_
            refine awp_cond (decide ((i22 : Int) < (Q136 a_f i6))) (by kernel_rfl) (fun hb => ?_) (fun hb => ?_)
            · replace h := cond_t hb h
              clear hb
              refine awp_skip ?_
              refine then_normal ?_
              refine awp_seq ?_
              refine awp_block ?_
              obtain ⟨hc25, h⟩ := chk_some h
              refine rgs [] [] (⟨[(4, (.ptr 4 0)), (6, (.ptr 6 0)), (10, (.ptr 10 0)), (28, (Q132 a_f)), (29, (Q134 a_f)), (30, (.int .i64 i6)), (59, (Q156 a_f i6)), (60, (.int .i64 (Q136 a_f i6))), (61, (.int .i64 i22))], [(4, .row 52 [(.ptr 4 0), (AV.list 1 eU8 (0 : Int) l23 (.own 50401))]), (6, .row 47 (Q130 a_f i6)), (10, .row 41 [(.int .i64 (Q131 a_f i6 i22).Kind), (.int .i64 (Q131 a_f i6 i22).Bits), (.int .i64 (Q131 a_f i6 i22).Lanes), (.int .i64 (Q131 a_f i6 i22).Dst), (AV.list 1 eI64 (0 : Int) (Q131 a_f i6 i22).Args .none), (.int .u64 (Q131 a_f i6 i22).Imm)]), (50401, .tok 1 5 l23.length)]⟩ : St) [(InB i22 ((Q142 a_f i6).Ops).length)] hn mix (no_hand hΓ) (by kernel_rfl) ⟨hc25, trivial⟩ ?_
              obtain ⟨hc26, h⟩ := chk_some h
              obtain ⟨x27, hx27, h⟩ := bind_some h
              obtain ⟨x28, hx28, h⟩ := bind_some h
              obtain ⟨x29, hx29, h⟩ := bind_some h
              obtain ⟨x30, hx30, h⟩ := bind_some h
              obtain ⟨x31, hx31, h⟩ := bind_some h
              obtain ⟨x32, hx32, h⟩ := bind_some h
              refine rg [⟨[], [], (.str x27), []⟩, ⟨[], [], (.str x28), []⟩, ⟨[], [], (.str x29), []⟩, ⟨[], [], (.str x30), []⟩, ⟨[], [], (.str x31), []⟩, ⟨[(4, 30000), (50401, 37001)], [], (.tuple []), [(30000, .row 52 [(.ptr 30000 0), (AV.list 1 eU8 (0 : Int) x32 (.own 37001))]), (37001, .tok 1 5 x32.length)]⟩] [(68, (.str (Q144 a_f i6 i22))), (84, (AV.list 1 eS ([] : List Int) ([(Q144 a_f i6 i22), x27, x28, x29, x30, x31] : List (List Int)) .exact))] (⟨(Q151 a_f i6 i22), [(4, .row 52 [(.ptr 4 0), (AV.list 1 eU8 (0 : Int) x32 (.own 50401))]), (6, .row 47 (Q130 a_f i6)), (50401, .tok 1 5 x32.length)]⟩ : St) [(InB (Q131 a_f i6 i22).Kind 23), (AVle (ga0.getD (((Q131 a_f i6 i22).Kind).toNat * 1) .any) (.str (Q144 a_f i6 i22))), (Spec Tryz.prog 16 [(.int .i64 (Q131 a_f i6 i22).Bits)] [] (.str x27) []), (Spec Tryz.prog 16 [(.int .i64 (Q131 a_f i6 i22).Lanes)] [] (.str x28) []), (Spec Tryz.prog 16 [(.int .i64 (Q131 a_f i6 i22).Dst)] [] (.str x29) []), (Spec Tryz.prog 15 [(AV.list 1 eI64 (0 : Int) (Q131 a_f i6 i22).Args .none)] [] (.str x30) []), (Spec Tryz.prog 17 [(.int .u64 (Q131 a_f i6 i22).Imm), (.int .i64 (10 : Int))] [] (.str x31) []), (AVle (.slice 1 6 (fun i => ([[(.str (Q144 a_f i6 i22))], [(.str x27)], [(.str x28)], [(.str x29)], [(.str x30)], [(.str x31)]] : List (List AV)).getD i []) .exact) (AV.list 1 eS ([] : List Int) ([(Q144 a_f i6 i22), x27, x28, x29, x30, x31] : List (List Int)) .exact)), (Spec Tryz.prog 14 [(.ptr 30000 0), (AV.list 1 eS ([] : List Int) ([(Q144 a_f i6 i22), x27, x28, x29, x30, x31] : List (List Int)) .none)] [(30000, .row 52 [(.ptr 30000 0), (AV.list 1 eU8 (0 : Int) l23 (.own 37001))]), (37001, .tok 1 5 l23.length)] (.tuple []) [(30000, .row 52 [(.ptr 30000 0), (AV.list 1 eU8 (0 : Int) x32 (.own 37001))]), (37001, .tok 1 5 x32.length)])] hn mix (no_hand hΓ) (by kernel_rfl) ⟨hc26, (av_tabSP (inB_lit hc26)), (ok_text_number ((Q131 a_f i6 i22).Bits) x27 hx27), (ok_text_number ((Q131 a_f i6 i22).Lanes) x28 hx28), (ok_text_number ((Q131 a_f i6 i22).Dst) x29 hx29), (ok_text_list ((Q131 a_f i6 i22).Args) x30 hx30), (xok_FormatUint ((Q131 a_f i6 i22).Imm) (10 : Int) x31 hx31), (av_lit rfl (fun i hi => map_get (e := eS) (d := ([] : List Int)) ([(Q144 a_f i6 i22), x27, x28, x29, x30, x31] : List (List Int)) i hi)), (ok_text_putLine_v2 ([(Q144 a_f i6 i22), x27, x28, x29, x30, x31] : List (List Int)) l23 x32 hx32), trivial⟩ ?_
              refine block_normal ?_
              refine then_normal ?_
              refine rg0 (⟨[(4, (.ptr 4 0)), (6, (.ptr 6 0)), (28, (Q132 a_f)), (29, (Q134 a_f)), (30, (.int .i64 i6)), (59, (Q156 a_f i6)), (60, (.int .i64 (Q136 a_f i6))), (61, (.int .i64 (w64 (i22 + (1 : Int)))))], [(4, .row 52 [(.ptr 4 0), (AV.list 1 eU8 (0 : Int) x32 (.own 50401))]), (6, .row 47 (Q130 a_f i6)), (50401, .tok 1 5 x32.length)]⟩ : St) hn mix (no_hand hΓ) (by kernel_rfl) ?_
              obtain rfl := Option.some.inj h
              exact ⟨rfl, Le.refl _ _⟩
            · replace h := cond_f hb h
              clear hb
              refine awp_exit ?_
              refine then_exit ?_
              obtain rfl := Option.some.inj h
              exact ⟨(by intro hh; cases hh), rfl, le_restrict_eq [4, 6, 28, 29, 30] [4, 6, 50401] (by kernel_rfl) (no_hand hΓ)⟩
          · clear hx33
            rintro e st' ⟨rfl, hl34⟩
            refine block_here ?_
            refine then_normal ?_
            refine awp_le hl34 ?_
            obtain ⟨hc35, h⟩ := chk_some h
            obtain ⟨x36, hx36, h⟩ := bind_some h
            obtain ⟨x37, hx37, h⟩ := bind_some h
            obtain ⟨x38, hx38, h⟩ := bind_some h
            refine rg [⟨[], [], (.str x36), []⟩, ⟨[], [], (.str x37), []⟩, ⟨[(4, 30000), (50401, 37001)], [], (.tuple []), [(30000, .row 52 [(.ptr 30000 0), (AV.list 1 eU8 (0 : Int) x38 (.own 37001))]), (37001, .tok 1 5 x38.length)]⟩] [(91, (.str (Q135 a_f i6))), (100, (AV.list 1 eS ([] : List Int) ([(Q135 a_f i6), x36, x37] : List (List Int)) .exact))] (⟨(Q150 a_f i6), [(4, .row 52 [(.ptr 4 0), (AV.list 1 eU8 (0 : Int) x38 (.own 50401))]), (50401, .tok 1 5 x38.length)]⟩ : St) [(InB (Q142 a_f i6).End.Kind 4), (AVle (ga1.getD (((Q142 a_f i6).End.Kind).toNat * 1) .any) (.str (Q135 a_f i6))), (Spec Tryz.prog 16 [(.int .i64 (Q142 a_f i6).End.Arg)] [] (.str x36) []), (Spec Tryz.prog 15 [(AV.list 1 eI64 (0 : Int) (Q142 a_f i6).End.To .none)] [] (.str x37) []), (AVle (.slice 1 3 (fun i => ([[(.str (Q135 a_f i6))], [(.str x36)], [(.str x37)]] : List (List AV)).getD i []) .exact) (AV.list 1 eS ([] : List Int) ([(Q135 a_f i6), x36, x37] : List (List Int)) .exact)), (Spec Tryz.prog 14 [(.ptr 30000 0), (AV.list 1 eS ([] : List Int) ([(Q135 a_f i6), x36, x37] : List (List Int)) .none)] [(30000, .row 52 [(.ptr 30000 0), (AV.list 1 eU8 (0 : Int) x33 (.own 37001))]), (37001, .tok 1 5 x33.length)] (.tuple []) [(30000, .row 52 [(.ptr 30000 0), (AV.list 1 eU8 (0 : Int) x38 (.own 37001))]), (37001, .tok 1 5 x38.length)])] hn mix (no_hand hΓ) (by kernel_rfl) ⟨hc35, (av_tabSP (inB_lit hc35)), (ok_text_number ((Q142 a_f i6).End.Arg) x36 hx36), (ok_text_list ((Q142 a_f i6).End.To) x37 hx37), (av_lit rfl (fun i hi => map_get (e := eS) (d := ([] : List Int)) ([(Q135 a_f i6), x36, x37] : List (List Int)) i hi)), (ok_text_putLine_v2 ([(Q135 a_f i6), x36, x37] : List (List Int)) x33 x38 hx38), trivial⟩ ?_
            refine block_normal ?_
            refine then_normal ?_
            refine rg0 (⟨[(4, (.ptr 4 0)), (28, (Q132 a_f)), (29, (Q134 a_f)), (30, (.int .i64 (w64 (i6 + (1 : Int)))))], [(4, .row 52 [(.ptr 4 0), (AV.list 1 eU8 (0 : Int) x38 (.own 50401))]), (50401, .tok 1 5 x38.length)]⟩ : St) hn mix (no_hand hΓ) (by kernel_rfl) ?_
            obtain rfl := Option.some.inj h
            exact ⟨rfl, Le.refl _ _⟩
      · replace h := cond_f hb h
        clear hb
        refine awp_exit ?_
        refine then_exit ?_
        obtain rfl := Option.some.inj h
        exact ⟨(by intro hh; cases hh), rfl, le_restrict_eq [4] [4, 50401] (by kernel_rfl) (no_hand hΓ)⟩
    · clear hx39
      rintro e st' ⟨rfl, hl40⟩
      refine block_here ?_
      refine then_normal ?_
      refine awp_le hl40 ?_
      obtain ⟨x41, hx41, h⟩ := bind_some h
      refine rgs [⟨[(4, 30000), (50401, 37001)], [], (.str x41.1), [(30000, .row 52 [(.ptr 30000 0), (AV.list 1 eU8 (0 : Int) x41.2 (.own 37001))]), (37001, .tok 1 5 x41.2.length)]⟩] [] (⟨[(2, (.str x41.1)), (3, (.int .i64 (0 : Int)))], []⟩ : St) [(Spec Tryz.prog 18 [(.ptr 30000 0)] [(30000, .row 52 [(.ptr 30000 0), (AV.list 1 eU8 (0 : Int) x39 (.own 37001))]), (37001, .tok 1 5 x39.length)] (.str x41.1) [(30000, .row 52 [(.ptr 30000 0), (AV.list 1 eU8 (0 : Int) x41.2 (.own 37001))]), (37001, .tok 1 5 x41.2.length)])] hn mix (no_hand hΓ) (by kernel_rfl) ⟨(xok_String x39 x41 hx41), trivial⟩ ?_
      refine awp_ret ?_
      obtain rfl := Option.some.inj h
      exact ⟨.inl rfl, [], by kernel_rfl⟩

noncomputable def Q164 (x3 : (TFunc × Int)) := ((x3.2 : Int) == (3 : Int))
noncomputable def Q163 (x1 : (TFunc × Int)) := (((x1.2 : Int) == (0 : Int)) == true)
noncomputable def Q165 (x1 : (TFunc × Int)) := (bif (bif ((x1.2 : Int) == (0 : Int)) then (((x1.1.Blocks.length : Int) : Int) == (1 : Int)) else false) then (((((x1.1.Blocks.getD ((0 : Int)).toNat (default : TBlock)).Ops).getD ((0 : Int)).toNat (default : TOp)).Imm : Int) == (5 : Int)) else false)
noncomputable def Q157 (x1 : (TFunc × Int)) (x2 : (List Int × Int)) := (bif (bif (Q165 x1) then ((x2.2 : Int) == (0 : Int)) else false) then ((x2.1 : List Int) == ([102, 117, 110, 99, 32, 40, 41, 32, 56, 10, 98, 108, 111, 99, 107, 10, 99, 111, 110, 115, 116, 32, 56, 32, 49, 32, 49, 32, 40, 41, 32, 53, 10, 114, 101, 116, 32, 49, 32, 40, 41, 10] : List Int)) else false)
noncomputable def Q166 (x1 : (TFunc × Int)) (x2 : (List Int × Int)) (x3 : (TFunc × Int)) := (bif (Q157 x1 x2) then (Q164 x3) else false)
noncomputable def Q158 (x1 : (TFunc × Int)) := ((bif ((x1.2 : Int) == (0 : Int)) then (((x1.1.Blocks.length : Int) : Int) == (1 : Int)) else false) == true)
noncomputable def Q162 (x1 : (TFunc × Int)) : List (Nat × Own) := [(2, .row 25 [(AV.list 1 eI64 (0 : Int) x1.1.Params .none), (.int .i64 x1.1.Ret), (AV.list 5 eTBlock (default : TBlock) x1.1.Blocks .none)])]
noncomputable def Q160 : AV := (.str ([102, 117, 110, 99, 32, 40, 41, 32, 56, 10, 98, 108, 111, 99, 107, 10, 99, 111, 110, 115, 116, 32, 56, 32, 49, 32, 49, 32, 40, 41, 32, 53, 10, 114, 101, 116, 32, 49, 32, 40, 41, 10] : List Int))
noncomputable def Q161 (x1 : (TFunc × Int)) := ((Q165 x1) == true)
noncomputable def Q159 (x1 : (TFunc × Int)) (x2 : (List Int × Int)) := ((bif (Q165 x1) then ((x2.2 : Int) == (0 : Int)) else false) == true)
noncomputable def m_locksteplaw05_awake  : Option Bool :=
  ((m_text_Parse ([102, 117, 110, 99, 32, 40, 41, 32, 56, 10, 98, 108, 111, 99, 107, 10, 99, 111, 110, 115, 116, 32, 56, 32, 49, 32, 49, 32, 40, 41, 32, 53, 10, 114, 101, 116, 32, 49, 32, 40, 41, 10] : List Int)).bind fun x1 => ((m_text_Print x1.1).bind fun x2 => ((m_text_Parse ([102, 117, 110, 99, 32, 40, 41, 32, 48, 56] : List Int)).bind fun x3 => ((m_text_Kind ([97, 100, 100] : List Int)).bind fun x4 => (chk (((bif ((x1.2 : Int) == (0 : Int)) then (((x1.1.Blocks.length : Int) : Int) == (1 : Int)) else false) == true) = true → (InB (0 : Int) x1.1.Blocks.length)) (chk (((bif ((x1.2 : Int) == (0 : Int)) then (((x1.1.Blocks.length : Int) : Int) == (1 : Int)) else false) == true) = true → (InB (0 : Int) ((x1.1.Blocks.getD ((0 : Int)).toNat (default : TBlock)).Ops).length)) (some (bif (bif (bif (bif (bif (bif (bif ((x1.2 : Int) == (0 : Int)) then (((x1.1.Blocks.length : Int) : Int) == (1 : Int)) else false) then (((((x1.1.Blocks.getD ((0 : Int)).toNat (default : TBlock)).Ops).getD ((0 : Int)).toNat (default : TOp)).Imm : Int) == (5 : Int)) else false) then ((x2.2 : Int) == (0 : Int)) else false) then ((x2.1 : List Int) == ([102, 117, 110, 99, 32, 40, 41, 32, 56, 10, 98, 108, 111, 99, 107, 10, 99, 111, 110, 115, 116, 32, 56, 32, 49, 32, 49, 32, 40, 41, 32, 53, 10, 114, 101, 116, 32, 49, 32, 40, 41, 10] : List Int)) else false) then ((x3.2 : Int) == (3 : Int)) else false) then ((x4.1 : Int) == (1 : Int)) else false) then x4.2 else false))))))))
theorem ok_locksteplaw05_awake  (r : Bool) (h : m_locksteplaw05_awake = some r) : Spec Tryz.prog 4 [] [] (.bool r) [] := by
  refine spec_of_awp (fn := Tryz.f4) Tryz.func4 rfl rfl (by kernel_rfl) (fun Γ hn hΓ => ?_)
  have hn : Γ.n = 67 := hn
  unfold m_locksteplaw05_awake at h
  refine rgs0 (⟨[], []⟩ : St) hn mix (no_hand hΓ) (by kernel_rfl) ?_
  refine rgs0 (⟨[(1, Q160)], []⟩ : St) hn mix (no_hand hΓ) (by kernel_rfl) ?_
  obtain ⟨x1, hx1, h⟩ := bind_some h
  refine rgs [⟨[], [], (.tuple [(.agg (eTFunc x1.1)), (.int .i64 x1.2)]), []⟩] [] (⟨[(1, Q160), (2, (.ptr 2 0)), (3, (.int .i64 x1.2))], (Q162 x1)⟩ : St) [(Spec Tryz.prog 8 [Q160] [] (.tuple [(.agg (eTFunc x1.1)), (.int .i64 x1.2)]) [])] hn mix (no_hand hΓ) (by kernel_rfl) ⟨(ok_text_Parse ([102, 117, 110, 99, 32, 40, 41, 32, 56, 10, 98, 108, 111, 99, 107, 10, 99, 111, 110, 115, 116, 32, 56, 32, 49, 32, 49, 32, 40, 41, 32, 53, 10, 114, 101, 116, 32, 49, 32, 40, 41, 10] : List Int) x1 hx1), trivial⟩ ?_
  obtain ⟨x2, hx2, h⟩ := bind_some h
  refine rgs [⟨[], [], (.tuple [(.str x2.1), (.int .i64 x2.2)]), []⟩] [] (⟨[(1, Q160), (2, (.ptr 2 0)), (3, (.int .i64 x1.2)), (4, (.str x2.1)), (5, (.int .i64 x2.2))], (Q162 x1)⟩ : St) [(Spec Tryz.prog 6 [(.agg (eTFunc x1.1))] [] (.tuple [(.str x2.1), (.int .i64 x2.2)]) [])] hn mix (no_hand hΓ) (by kernel_rfl) ⟨(ok_text_Print x1.1 x2 hx2), trivial⟩ ?_
  obtain ⟨x3, hx3, h⟩ := bind_some h
  refine rgs [⟨[], [], (.tuple [(.agg (eTFunc x3.1)), (.int .i64 x3.2)]), []⟩] [] (⟨[(1, Q160), (2, (.ptr 2 0)), (3, (.int .i64 x1.2)), (4, (.str x2.1)), (5, (.int .i64 x2.2)), (7, (.int .i64 x3.2))], (Q162 x1)⟩ : St) [(Spec Tryz.prog 8 [(.str ([102, 117, 110, 99, 32, 40, 41, 32, 48, 56] : List Int))] [] (.tuple [(.agg (eTFunc x3.1)), (.int .i64 x3.2)]) [])] hn mix (no_hand hΓ) (by kernel_rfl) ⟨(ok_text_Parse ([102, 117, 110, 99, 32, 40, 41, 32, 48, 56] : List Int) x3 hx3), trivial⟩ ?_
  obtain ⟨x4, hx4, h⟩ := bind_some h
  refine rgs [⟨[], [], (.tuple [(.int .i64 x4.1), (.bool x4.2)]), []⟩] [] (⟨[(1, Q160), (2, (.ptr 2 0)), (3, (.int .i64 x1.2)), (4, (.str x2.1)), (5, (.int .i64 x2.2)), (7, (.int .i64 x3.2)), (8, (.int .i64 x4.1)), (9, (.bool x4.2))], (Q162 x1)⟩ : St) [(Spec Tryz.prog 11 [(.str ([97, 100, 100] : List Int))] [] (.tuple [(.int .i64 x4.1), (.bool x4.2)]) [])] hn mix (no_hand hΓ) (by kernel_rfl) ⟨(ok_text_Kind ([97, 100, 100] : List Int) x4 hx4), trivial⟩ ?_
  obtain ⟨hc5, h⟩ := chk_some h
  obtain ⟨hc6, h⟩ := chk_some h
  refine rgs [] [] (⟨[(0, (.bool (bif (bif (Q166 x1 x2 x3) then ((x4.1 : Int) == (1 : Int)) else false) then x4.2 else false)))], []⟩ : St) [((Q163 x1) = true → (Q163 x1) = true), ((Q163 x1) = true → (Q163 x1) = true), ((Q163 x1) = true → (Q163 x1) = true), (((x1.2 : Int) == (0 : Int)) = true → (Q163 x1) = true), ((Q158 x1) = true → (Q158 x1) = true), ((Q158 x1) = true → (Q158 x1) = true), ((Q158 x1) = true → (InB (0 : Int) x1.1.Blocks.length)), ((Q158 x1) = true → (Q158 x1) = true), ((Q158 x1) = true → (Q158 x1) = true), ((Q158 x1) = true → (Q158 x1) = true), ((Q158 x1) = true → (InB (0 : Int) ((x1.1.Blocks.getD ((0 : Int)).toNat (default : TBlock)).Ops).length)), ((Q158 x1) = true → (Q158 x1) = true), ((Q158 x1) = true → (Q158 x1) = true), ((Q158 x1) = true → (Q158 x1) = true), ((bif ((x1.2 : Int) == (0 : Int)) then (((x1.1.Blocks.length : Int) : Int) == (1 : Int)) else false) = true → (Q158 x1) = true), ((Q161 x1) = true → (Q161 x1) = true), ((Q165 x1) = true → (Q161 x1) = true), ((Q159 x1 x2) = true → (Q159 x1 x2) = true), ((Q159 x1 x2) = true → (Q159 x1 x2) = true), ((bif (Q165 x1) then ((x2.2 : Int) == (0 : Int)) else false) = true → (Q159 x1 x2) = true), (((Q157 x1 x2) == true) = true → ((Q157 x1 x2) == true) = true), ((Q157 x1 x2) = true → ((Q157 x1 x2) == true) = true), (((Q166 x1 x2 x3) == true) = true → ((Q166 x1 x2 x3) == true) = true), ((Q166 x1 x2 x3) = true → ((Q166 x1 x2 x3) == true) = true), ((bif (Q166 x1 x2 x3) then ((x4.1 : Int) == (1 : Int)) else false) = true → ((bif (Q166 x1 x2 x3) then ((x4.1 : Int) == (1 : Int)) else false) == true) = true)] hn mix (no_hand hΓ) (by kernel_rfl) ⟨(fun hg => hg), (fun hg => hg), (fun hg => hg), gT, (fun hg => hg), (fun hg => hg), (fun hg => (hc5 hg)), (fun hg => hg), (fun hg => hg), (fun hg => hg), (fun hg => (hc6 hg)), (fun hg => hg), (fun hg => hg), (fun hg => hg), gT, (fun hg => hg), gT, (fun hg => hg), (fun hg => hg), gT, (fun hg => hg), gT, (fun hg => hg), gT, gT, trivial⟩ ?_
  refine awp_ret ?_
  obtain rfl := Option.some.inj h
  exact ⟨.inl rfl, [], by kernel_rfl⟩

noncomputable def m_lockstepref04_Small_L1 (a_f : TFunc) (i2 : Int) : (Int × Int) → Option (LR (Int × Int) Int) :=
  fun ((i5, i6) : (Int × Int)) => (chk (InB i2 a_f.Blocks.length) (bif (bif (decide ((i6 : Int) < (((a_f.Blocks.getD (i2).toNat (default : TBlock)).Phis).length : Int))) then (decide ((i5 : Int) ≤ (20000 : Int))) else false) then (chk (InB i2 a_f.Blocks.length) (chk (InB i6 ((a_f.Blocks.getD (i2).toNat (default : TBlock)).Phis).length) (chk (InB i2 a_f.Blocks.length) (chk (InB i6 ((a_f.Blocks.getD (i2).toNat (default : TBlock)).Phis).length) (some (.next ((w64 ((w64 ((w64 (i5 + (1 : Int))) + (((((a_f.Blocks.getD (i2).toNat (default : TBlock)).Phis).getD (i6).toNat (default : TPhi)).From).length : Int))) + (((((a_f.Blocks.getD (i2).toNat (default : TBlock)).Phis).getD (i6).toNat (default : TPhi)).Args).length : Int))), (w64 (i6 + (1 : Int)))))))))) else (some (.done i5))))
noncomputable def m_lockstepref04_Small_L2 (a_f : TFunc) (i2 : Int) : (Int × Int) → Option (LR (Int × Int) Int) :=
  fun ((i15, i16) : (Int × Int)) => (chk (InB i2 a_f.Blocks.length) (bif (bif (decide ((i16 : Int) < (((a_f.Blocks.getD (i2).toNat (default : TBlock)).Ops).length : Int))) then (decide ((i15 : Int) ≤ (20000 : Int))) else false) then (chk (InB i2 a_f.Blocks.length) (chk (InB i16 ((a_f.Blocks.getD (i2).toNat (default : TBlock)).Ops).length) (some (.next ((w64 ((w64 (i15 + (1 : Int))) + (((((a_f.Blocks.getD (i2).toNat (default : TBlock)).Ops).getD (i16).toNat (default : TOp)).Args).length : Int))), (w64 (i16 + (1 : Int)))))))) else (some (.done i15))))
noncomputable def m_lockstepref04_Small_L3 (a_f : TFunc) : (Int × Int) → Option (LR (Int × Int) Int) :=
  fun ((i1, i2) : (Int × Int)) => (bif (bif (decide ((i2 : Int) < (a_f.Blocks.length : Int))) then (decide ((i1 : Int) ≤ (20000 : Int))) else false) then (chk (InB i2 a_f.Blocks.length) ((loopO (S := (Int × Int)) (X := Int) (m_lockstepref04_Small_L1 a_f i2) ((w64 ((w64 (i1 + (1 : Int))) + (((a_f.Blocks.getD (i2).toNat (default : TBlock)).End.To).length : Int))), (0 : Int))).bind (fun x13 => (((loopO (S := (Int × Int)) (X := Int) (m_lockstepref04_Small_L2 a_f i2) (x13, (0 : Int))).bind (fun x21 => ((some (.next (x21, (w64 (i2 + (1 : Int))))))))))))) else (some (.done i1)))
noncomputable def Q168 (a_f : TFunc) (i2 : Int) := (a_f.Blocks.getD (i2).toNat (default : TBlock))
noncomputable def Q169 (i2 : Int) (a_f : TFunc) := (decide ((i2 : Int) < (a_f.Blocks.length : Int)))
noncomputable def Q170 (i16 : Int) (a_f : TFunc) (i2 : Int) := (decide ((i16 : Int) < (((Q168 a_f i2).Ops).length : Int)))
noncomputable def Q171 (i6 : Int) (a_f : TFunc) (i2 : Int) := (decide ((i6 : Int) < (((Q168 a_f i2).Phis).length : Int)))
noncomputable def Q167 (a_f : TFunc) : List (Nat × Own) := [(1, .row 25 [(AV.list 1 eI64 (0 : Int) a_f.Params .none), (.int .i64 a_f.Ret), (AV.list 5 eTBlock (default : TBlock) a_f.Blocks .none)])]
noncomputable def Q172 (i5 : Int) (a_f : TFunc) (i2 : Int) (i6 : Int) : AV := (.int .i64 (w64 ((w64 ((w64 (i5 + (1 : Int))) + (((((Q168 a_f i2).Phis).getD (i6).toNat (default : TPhi)).From).length : Int))) + (((((Q168 a_f i2).Phis).getD (i6).toNat (default : TPhi)).Args).length : Int))))
noncomputable def m_lockstepref04_Small (a_f : TFunc) : Option Bool :=
  ((loopO (S := (Int × Int)) (X := Int) (m_lockstepref04_Small_L3 a_f) ((a_f.Params.length : Int), (0 : Int))).bind (fun x23 => ((some (decide ((x23 : Int) ≤ (20000 : Int)))))))
theorem ok_lockstepref04_Small (a_f : TFunc) (r : Bool) (h : m_lockstepref04_Small a_f = some r) : Spec Tryz.prog 5 [(.agg (eTFunc a_f))] [] (.bool r) [] := by
  refine spec_of_awp (fn := Tryz.f5) Tryz.func5 rfl rfl (by kernel_rfl) (fun Γ hn hΓ => ?_)
  have hn : Γ.n = 104 := hn
  unfold m_lockstepref04_Small at h
  refine rgs0 (⟨[(1, (.ptr 1 0))], (Q167 a_f)⟩ : St) hn mix (no_hand hΓ) (by kernel_rfl) ?_
  refine rgs0 (⟨[(1, (.ptr 1 0)), (3, (.int .i64 (a_f.Params.length : Int)))], (Q167 a_f)⟩ : St) hn mix (no_hand hΓ) (by kernel_rfl) ?_
  refine awp_seq ?_
  refine rgs0 (⟨[(1, (.ptr 1 0)), (3, (.int .i64 (a_f.Params.length : Int))), (4, (.int .i64 (0 : Int)))], (Q167 a_f)⟩ : St) hn mix (no_hand hΓ) (by kernel_rfl) ?_
  refine awp_block ?_
  refine awp_le (st' := (fun ((i1, i2) : (Int × Int)) => (⟨[(1, (.ptr 1 0)), (3, (.int .i64 i1)), (4, (.int .i64 i2))], (Q167 a_f)⟩ : St)) ((a_f.Params.length : Int), (0 : Int))) (Le.refl _ _) ?_
  obtain ⟨x23, hx23, h⟩ := bind_some h
  refine awp_loop (fun ((i1, i2) : (Int × Int)) => (⟨[(1, (.ptr 1 0)), (3, (.int .i64 i1)), (4, (.int .i64 i2))], (Q167 a_f)⟩ : St)) _ (fun (i3 : Int) (e : Exit) (st : St) => e = (.exit 0) ∧ Le Γ st (⟨[(3, (.int .i64 i3))], []⟩ : St)) ?_ hx23 ?_
  · rintro ⟨i1, i2⟩ y h
    unfold m_lockstepref04_Small_L3 at h
    refine awp_seq ?_
    refine rgs [] [] (⟨[(1, (.ptr 1 0)), (3, (.int .i64 i1)), (4, (.int .i64 i2)), (18, (.bool (bif (Q169 i2 a_f) then (decide ((i1 : Int) ≤ (20000 : Int))) else false)))], (Q167 a_f)⟩ : St) [(((Q169 i2 a_f) == true) = true → ((Q169 i2 a_f) == true) = true), ((Q169 i2 a_f) = true → ((Q169 i2 a_f) == true) = true)] hn mix (no_hand hΓ) (by kernel_rfl) ⟨(fun hg => hg), gT, trivial⟩ ?_
    refine awp_cond (bif (Q169 i2 a_f) then (decide ((i1 : Int) ≤ (20000 : Int))) else false) (by kernel_rfl) (fun hb => ?_) (fun hb => ?_)
    · replace h := cond_t hb h
      clear hb
      refine awp_skip ?_
      refine then_normal ?_
      refine awp_seq ?_
      refine awp_block ?_
      obtain ⟨hc4, h⟩ := chk_some h
      refine rgs [] [] (⟨[(1, (.ptr 1 0)), (3, (.int .i64 (w64 ((w64 (i1 + (1 : Int))) + (((Q168 a_f i2).End.To).length : Int))))), (4, (.int .i64 i2))], (Q167 a_f)⟩ : St) [(InB i2 a_f.Blocks.length)] hn mix (no_hand hΓ) (by kernel_rfl) ⟨hc4, trivial⟩ ?_
      refine awp_seq ?_
      refine rgs0 (⟨[(1, (.ptr 1 0)), (3, (.int .i64 (w64 ((w64 (i1 + (1 : Int))) + (((Q168 a_f i2).End.To).length : Int))))), (4, (.int .i64 i2)), (5, (.int .i64 (0 : Int)))], (Q167 a_f)⟩ : St) hn mix (no_hand hΓ) (by kernel_rfl) ?_
      refine awp_block ?_
      refine awp_le (st' := (fun ((i5, i6) : (Int × Int)) => (⟨[(1, (.ptr 1 0)), (3, (.int .i64 i5)), (4, (.int .i64 i2)), (5, (.int .i64 i6))], (Q167 a_f)⟩ : St)) ((w64 ((w64 (i1 + (1 : Int))) + (((Q168 a_f i2).End.To).length : Int))), (0 : Int))) (Le.refl _ _) ?_
      obtain ⟨x13, hx13, h⟩ := bind_some h
      refine awp_loop (fun ((i5, i6) : (Int × Int)) => (⟨[(1, (.ptr 1 0)), (3, (.int .i64 i5)), (4, (.int .i64 i2)), (5, (.int .i64 i6))], (Q167 a_f)⟩ : St)) _ (fun (i7 : Int) (e : Exit) (st : St) => e = (.exit 2) ∧ Le Γ st (⟨[(1, (.ptr 1 0)), (3, (.int .i64 i7)), (4, (.int .i64 i2))], (Q167 a_f)⟩ : St)) ?_ hx13 ?_
      · rintro ⟨i5, i6⟩ y h
        unfold m_lockstepref04_Small_L1 at h
        refine awp_seq ?_
        obtain ⟨hc8, h⟩ := chk_some h
        refine rgs [] [] (⟨[(1, (.ptr 1 0)), (3, (.int .i64 i5)), (4, (.int .i64 i2)), (5, (.int .i64 i6)), (44, (.bool (bif (Q171 i6 a_f i2) then (decide ((i5 : Int) ≤ (20000 : Int))) else false)))], (Q167 a_f)⟩ : St) [(InB i2 a_f.Blocks.length), (((Q171 i6 a_f i2) == true) = true → ((Q171 i6 a_f i2) == true) = true), ((Q171 i6 a_f i2) = true → ((Q171 i6 a_f i2) == true) = true)] hn mix (no_hand hΓ) (by kernel_rfl) ⟨hc8, (fun hg => hg), gT, trivial⟩ ?_
        refine awp_cond (bif (Q171 i6 a_f i2) then (decide ((i5 : Int) ≤ (20000 : Int))) else false) (by kernel_rfl) (fun hb => ?_) (fun hb => ?_)
        · replace h := cond_t hb h
          clear hb
          refine awp_skip ?_
          refine then_normal ?_
          refine awp_seq ?_
          refine awp_block ?_
          obtain ⟨hc9, h⟩ := chk_some h
          obtain ⟨hc10, h⟩ := chk_some h
          obtain ⟨hc11, h⟩ := chk_some h
          obtain ⟨hc12, h⟩ := chk_some h
          refine rg [] [] (⟨[(1, (.ptr 1 0)), (3, (Q172 i5 a_f i2 i6)), (4, (.int .i64 i2)), (5, (.int .i64 i6))], (Q167 a_f)⟩ : St) [(InB i2 a_f.Blocks.length), (InB i6 ((Q168 a_f i2).Phis).length), (InB i2 a_f.Blocks.length), (InB i6 ((Q168 a_f i2).Phis).length)] hn mix (no_hand hΓ) (by kernel_rfl) ⟨hc9, hc10, hc11, hc12, trivial⟩ ?_
          refine block_normal ?_
          refine then_normal ?_
          refine rg0 (⟨[(1, (.ptr 1 0)), (3, (Q172 i5 a_f i2 i6)), (4, (.int .i64 i2)), (5, (.int .i64 (w64 (i6 + (1 : Int)))))], (Q167 a_f)⟩ : St) hn mix (no_hand hΓ) (by kernel_rfl) ?_
          obtain rfl := Option.some.inj h
          exact ⟨rfl, Le.refl _ _⟩
        · replace h := cond_f hb h
          clear hb
          refine awp_exit ?_
          refine then_exit ?_
          obtain rfl := Option.some.inj h
          exact ⟨(by intro hh; cases hh), rfl, le_restrict_eq [1, 3, 4] [1] (by kernel_rfl) (no_hand hΓ)⟩
      · clear hx13
        rintro e st' ⟨rfl, hl14⟩
        refine block_here ?_
        refine then_normal ?_
        refine awp_le hl14 ?_
        refine rgs0 (⟨[(1, (.ptr 1 0)), (3, (.int .i64 x13)), (4, (.int .i64 i2)), (6, (.int .i64 (0 : Int)))], (Q167 a_f)⟩ : St) hn mix (no_hand hΓ) (by kernel_rfl) ?_
        refine awp_block ?_
        refine awp_le (st' := (fun ((i15, i16) : (Int × Int)) => (⟨[(1, (.ptr 1 0)), (3, (.int .i64 i15)), (4, (.int .i64 i2)), (6, (.int .i64 i16))], (Q167 a_f)⟩ : St)) (x13, (0 : Int))) (Le.refl _ _) ?_
        obtain ⟨x21, hx21, h⟩ := bind_some h
        refine awp_loop (fun ((i15, i16) : (Int × Int)) => (⟨[(1, (.ptr 1 0)), (3, (.int .i64 i15)), (4, (.int .i64 i2)), (6, (.int .i64 i16))], (Q167 a_f)⟩ : St)) _ (fun (i17 : Int) (e : Exit) (st : St) => e = (.exit 4) ∧ Le Γ st (⟨[(1, (.ptr 1 0)), (3, (.int .i64 i17)), (4, (.int .i64 i2))], (Q167 a_f)⟩ : St)) ?_ hx21 ?_
        · rintro ⟨i15, i16⟩ y h
          unfold m_lockstepref04_Small_L2 at h
          refine awp_seq ?_
          obtain ⟨hc18, h⟩ := chk_some h
          refine rgs [] [] (⟨[(1, (.ptr 1 0)), (3, (.int .i64 i15)), (4, (.int .i64 i2)), (6, (.int .i64 i16)), (85, (.bool (bif (Q170 i16 a_f i2) then (decide ((i15 : Int) ≤ (20000 : Int))) else false)))], (Q167 a_f)⟩ : St) [(InB i2 a_f.Blocks.length), (((Q170 i16 a_f i2) == true) = true → ((Q170 i16 a_f i2) == true) = true), ((Q170 i16 a_f i2) = true → ((Q170 i16 a_f i2) == true) = true)] hn mix (no_hand hΓ) (by kernel_rfl) ⟨hc18, (fun hg => hg), gT, trivial⟩ ?_
          refine awp_cond (bif (Q170 i16 a_f i2) then (decide ((i15 : Int) ≤ (20000 : Int))) else false) (by kernel_rfl) (fun hb => ?_) (fun hb => ?_)
          · replace h := cond_t hb h
            clear hb
            refine awp_skip ?_
            refine then_normal ?_
            refine awp_seq ?_
            refine awp_block ?_
            obtain ⟨hc19, h⟩ := chk_some h
            obtain ⟨hc20, h⟩ := chk_some h
            refine rg [] [] (⟨[(1, (.ptr 1 0)), (3, (.int .i64 (w64 ((w64 (i15 + (1 : Int))) + (((((Q168 a_f i2).Ops).getD (i16).toNat (default : TOp)).Args).length : Int))))), (4, (.int .i64 i2)), (6, (.int .i64 i16))], (Q167 a_f)⟩ : St) [(InB i2 a_f.Blocks.length), (InB i16 ((Q168 a_f i2).Ops).length)] hn mix (no_hand hΓ) (by kernel_rfl) ⟨hc19, hc20, trivial⟩ ?_
            refine block_normal ?_
            refine then_normal ?_
            refine rg0 (⟨[(1, (.ptr 1 0)), (3, (.int .i64 (w64 ((w64 (i15 + (1 : Int))) + (((((Q168 a_f i2).Ops).getD (i16).toNat (default : TOp)).Args).length : Int))))), (4, (.int .i64 i2)), (6, (.int .i64 (w64 (i16 + (1 : Int)))))], (Q167 a_f)⟩ : St) hn mix (no_hand hΓ) (by kernel_rfl) ?_
            obtain rfl := Option.some.inj h
            exact ⟨rfl, Le.refl _ _⟩
          · replace h := cond_f hb h
            clear hb
            refine awp_exit ?_
            refine then_exit ?_
            obtain rfl := Option.some.inj h
            exact ⟨(by intro hh; cases hh), rfl, le_restrict_eq [1, 3, 4] [1] (by kernel_rfl) (no_hand hΓ)⟩
        · clear hx21
          rintro e st' ⟨rfl, hl22⟩
          refine block_here ?_
          refine block_normal ?_
          refine then_normal ?_
          refine awp_le hl22 ?_
          refine rg0 (⟨[(1, (.ptr 1 0)), (3, (.int .i64 x21)), (4, (.int .i64 (w64 (i2 + (1 : Int)))))], (Q167 a_f)⟩ : St) hn mix (no_hand hΓ) (by kernel_rfl) ?_
          obtain rfl := Option.some.inj h
          exact ⟨rfl, Le.refl _ _⟩
    · replace h := cond_f hb h
      clear hb
      refine awp_exit ?_
      refine then_exit ?_
      obtain rfl := Option.some.inj h
      exact ⟨(by intro hh; cases hh), rfl, le_restrict_eq [3] [] (by kernel_rfl) (no_hand hΓ)⟩
  · clear hx23
    rintro e st' ⟨rfl, hl24⟩
    refine block_here ?_
    refine then_normal ?_
    refine awp_le hl24 ?_
    refine rgs0 (⟨[(2, (.bool (decide ((x23 : Int) ≤ (20000 : Int)))))], []⟩ : St) hn mix (no_hand hΓ) (by kernel_rfl) ?_
    refine awp_ret ?_
    obtain rfl := Option.some.inj h
    exact ⟨.inl rfl, [], by kernel_rfl⟩

noncomputable def m_num_Put_F1  : (Int × List (Int)) → Option (LR (Int × List (Int)) (List (Int))) :=
  fun (s_ : (Int × List (Int))) => match s_ with | (i1, l2) => (bif (decide (((128 : Int) : Int) ≤ i1)) then (chk (l2.length + ([(bitsV .or .u8 (wu8 (bitsV .and .u64 i1 (127 : Int))) (128 : Int))] : List (Int)).length ≤ room) (some (.next ((shrV .u64 i1 (7 : Int)), (l2 ++ ([(bitsV .or .u8 (wu8 (bitsV .and .u64 i1 (127 : Int))) (128 : Int))] : List (Int))))))) else (chk (l2.length + ([(wu8 i1)] : List (Int)).length ≤ room) (some (.done (l2 ++ ([(wu8 i1)] : List (Int)))))))
noncomputable def Q177 (i1 : Int) := ([(wu8 i1)] : List (Int))
noncomputable def Q175 (a_v : Int) := ([(wu8 a_v)] : List (Int))
noncomputable def Q176 : AV := (AV.list 1 eU8 (0 : Int) ([] : List Int) .exact)
noncomputable def Q174 (i1 : Int) := ([(bitsV .or .u8 (wu8 (bitsV .and .u64 i1 (127 : Int))) (128 : Int))] : List (Int))
noncomputable def Q179 (l2 : List (Int)) (i1 : Int) : AV := (AV.list 1 eU8 (0 : Int) (l2 ++ (Q174 i1)) (.own 12))
noncomputable def Q173 (a_v : Int) := ([(bitsV .or .u8 (wu8 (bitsV .and .u64 a_v (127 : Int))) (128 : Int))] : List (Int))
noncomputable def Q178 (a_v : Int) : AV := (AV.list 1 eU8 (0 : Int) (([] : List Int) ++ (Q173 a_v)) (.own 12))
noncomputable def Q180 (a_v : Int) : AV := (AV.list 1 eU8 (0 : Int) (([] : List Int) ++ (Q175 a_v)) (.own 19))
noncomputable def m_num_Put (a_v : Int) : Option (List (Int)) :=
  ((scopeO (S := (Int × List (Int))) (X := List (Int)) (bif (decide (((128 : Int) : Int) ≤ a_v)) then (chk (([] : List Int).length + ([(bitsV .or .u8 (wu8 (bitsV .and .u64 a_v (127 : Int))) (128 : Int))] : List (Int)).length ≤ room) (some (.next ((shrV .u64 a_v (7 : Int)), (([] : List Int) ++ ([(bitsV .or .u8 (wu8 (bitsV .and .u64 a_v (127 : Int))) (128 : Int))] : List (Int))))))) else (chk (([] : List Int).length + ([(wu8 a_v)] : List (Int)).length ≤ room) (some (.done (([] : List Int) ++ ([(wu8 a_v)] : List (Int))))))) m_num_Put_F1).bind (fun x7 => ((some x7))))
theorem ok_num_Put (a_v : Int) (r : List (Int)) (h : m_num_Put a_v = some r) : Spec Tryz.prog 39 [(.int .u64 a_v)] [] (AV.list 1 eU8 (0 : Int) r (.own 20000)) [(20000, .tok 1 5 r.length)] := by
  refine spec_of_awp (fn := Tryz.f39) Tryz.func39 rfl rfl (by kernel_rfl) (fun Γ hn hΓ => ?_)
  have hn : Γ.n = 20 := hn
  unfold m_num_Put at h
  refine rgs [] [(2, Q176)] (⟨[(0, (.int .u64 a_v))], []⟩ : St) [(AVle (.slice 0 0 (fun _ => []) .exact) Q176)] hn mix (no_hand hΓ) (by kernel_rfl) ⟨av_nil, trivial⟩ ?_
  obtain ⟨x7, hx7, h⟩ := bind_some h
  refine awp_scope (S := (Int × List (Int))) (X := List (Int)) (fun (s_ : (Int × List (Int))) => match s_ with | (i1, l2) => 0) (fun (s_ : (Int × List (Int))) => match s_ with | (i1, l2) => (⟨[(0, (.int .u64 i1)), (3, (AV.list 1 eU8 (0 : Int) l2 (.own 12)))], [(12, .tok 1 5 l2.length)]⟩ : St)) _ _ (fun (r_ : List (Int)) (e : Exit) (st : St) => e = .ret ∧ retK Tryz.prog Tryz.f39.results.toList [] (AV.list 1 eU8 (0 : Int) r_ (.own 20000)) [(20000, .tok 1 5 r_.length)] e st) ?_ ?_ hx7 ?_
  · clear h hx7
    intro y h
    refine rgs [] [(3, Q176)] (⟨[(0, (.int .u64 a_v)), (3, Q176)], []⟩ : St) [(AVle (.slice 0 0 (fun _ => []) .exact) Q176)] hn mix (no_hand hΓ) (by kernel_rfl) ⟨av_nil, trivial⟩ ?_
    refine awp_seq ?_
    refine awp_label ?_
    refine then_normal ?_
    refine awp_seq ?_
    refine rgs0 (⟨[(0, (.int .u64 a_v)), (3, Q176), (5, (.bool (decide (((128 : Int) : Int) ≤ a_v))))], []⟩ : St) hn mix (no_hand hΓ) (by kernel_rfl) ?_
    refine awp_cond (decide (((128 : Int) : Int) ≤ a_v)) (by kernel_rfl) (fun hb => ?_) (fun hb => ?_)
    · replace h := cond_t hb h
      clear hb
      obtain ⟨hc3, h⟩ := chk_some h
      refine rgs [] [(11, (AV.list 1 eU8 (0 : Int) (Q173 a_v) .exact)), (12, (Q178 a_v))] (⟨[(0, (.int .u64 a_v)), (3, (Q178 a_v))], [(12, .tok 1 5 ((([] : List Int) ++ (Q173 a_v)).length))]⟩ : St) [(AVle (.slice 1 1 (fun i => ([[(.int .u8 (bitsV .or .u8 (wu8 (bitsV .and .u64 a_v (127 : Int))) (128 : Int)))]] : List (List AV)).getD i []) .exact) (AV.list 1 eU8 (0 : Int) (Q173 a_v) .exact)), (([] : List Int).length + (Q173 a_v).length ≤ room), (5 = tokU8 → ([] : List Int).length = 0 ∨ 0 < (Q173 a_v).length), (AVle (.slice 1 (([] : List Int).length + (Q173 a_v).length) (appF ([] : List Int).length (fun i => eU8 (([] : List Int).getD i (0 : Int))) (fun i => eU8 ((Q173 a_v).getD i (0 : Int)))) (.own 12)) (Q178 a_v)), (([] : List Int).length + (Q173 a_v).length = (([] : List Int) ++ (Q173 a_v)).length)] hn mix (no_hand hΓ) (by kernel_rfl) ⟨(av_lit rfl (fun i hi => map_get (e := eU8) (d := (0 : Int)) (Q173 a_v) i hi)), hc3, (fun _ => .inl rfl), av_app, (len_app _ _), trivial⟩ ?_
      refine rgs [] [] (⟨[(0, (.int .u64 (shrV .u64 a_v (7 : Int)))), (3, (Q178 a_v))], [(12, .tok 1 5 ((([] : List Int) ++ (Q173 a_v)).length))]⟩ : St) [(0 ≤ (7 : Int))] hn mix (no_hand hΓ) (by kernel_rfl) ⟨(by decide), trivial⟩ ?_
      refine awp_goto ?_
      refine then_goto ?_
      obtain rfl := Option.some.inj h
      exact ⟨rfl, rfl, Le.refl _ _⟩
    · replace h := cond_f hb h
      clear hb
      refine awp_skip ?_
      refine then_normal ?_
      obtain ⟨hc4, h⟩ := chk_some h
      refine rgs [] [(18, (AV.list 1 eU8 (0 : Int) (Q175 a_v) .exact)), (19, (Q180 a_v))] (⟨[(2, (Q180 a_v))], [(19, .tok 1 5 ((([] : List Int) ++ (Q175 a_v)).length))]⟩ : St) [(AVle (.slice 1 1 (fun i => ([[(.int .u8 (wu8 a_v))]] : List (List AV)).getD i []) .exact) (AV.list 1 eU8 (0 : Int) (Q175 a_v) .exact)), (([] : List Int).length + (Q175 a_v).length ≤ room), (5 = tokU8 → ([] : List Int).length = 0 ∨ 0 < (Q175 a_v).length), (AVle (.slice 1 (([] : List Int).length + (Q175 a_v).length) (appF ([] : List Int).length (fun i => eU8 (([] : List Int).getD i (0 : Int))) (fun i => eU8 ((Q175 a_v).getD i (0 : Int)))) (.own 19)) (Q180 a_v)), (([] : List Int).length + (Q175 a_v).length = (([] : List Int) ++ (Q175 a_v)).length)] hn mix (no_hand hΓ) (by kernel_rfl) ⟨(av_lit rfl (fun i hi => map_get (e := eU8) (d := (0 : Int)) (Q175 a_v) i hi)), hc4, (fun _ => .inl rfl), av_app, (len_app _ _), trivial⟩ ?_
      refine awp_ret ?_
      obtain rfl := Option.some.inj h
      exact ⟨(by intro l hh; cases hh), rfl, ⟨.inl rfl, [(19, 20000)], by kernel_rfl⟩⟩
  · clear h hx7
    rintro ⟨i1, l2⟩ y rest hf h
    obtain rfl := Option.some.inj hf
    clear hf
    unfold m_num_Put_F1 at h
    refine awp_seq ?_
    refine awp_skip ?_
    refine then_normal ?_
    refine awp_seq ?_
    refine rgs0 (⟨[(0, (.int .u64 i1)), (3, (AV.list 1 eU8 (0 : Int) l2 (.own 12))), (5, (.bool (decide (((128 : Int) : Int) ≤ i1))))], [(12, .tok 1 5 l2.length)]⟩ : St) hn mix (no_hand hΓ) (by kernel_rfl) ?_
    refine awp_cond (decide (((128 : Int) : Int) ≤ i1)) (by kernel_rfl) (fun hb => ?_) (fun hb => ?_)
    · replace h := cond_t hb h
      clear hb
      obtain ⟨hc5, h⟩ := chk_some h
      refine rgs [] [(11, (AV.list 1 eU8 (0 : Int) (Q174 i1) .exact)), (12, (Q179 l2 i1))] (⟨[(0, (.int .u64 i1)), (3, (Q179 l2 i1))], [(12, .tok 1 5 ((l2 ++ (Q174 i1)).length))]⟩ : St) [(AVle (.slice 1 1 (fun i => ([[(.int .u8 (bitsV .or .u8 (wu8 (bitsV .and .u64 i1 (127 : Int))) (128 : Int)))]] : List (List AV)).getD i []) .exact) (AV.list 1 eU8 (0 : Int) (Q174 i1) .exact)), (l2.length = l2.length), (l2.length + (Q174 i1).length ≤ room), (AVle (.slice 1 (l2.length + (Q174 i1).length) (appF l2.length (fun i => eU8 (l2.getD i (0 : Int))) (fun i => eU8 ((Q174 i1).getD i (0 : Int)))) (.own 12)) (Q179 l2 i1)), (l2.length + (Q174 i1).length = (l2 ++ (Q174 i1)).length)] hn mix (no_hand hΓ) (by kernel_rfl) ⟨(av_lit rfl (fun i hi => map_get (e := eU8) (d := (0 : Int)) (Q174 i1) i hi)), rfl, hc5, av_app, (len_app _ _), trivial⟩ ?_
      refine rgs [] [] (⟨[(0, (.int .u64 (shrV .u64 i1 (7 : Int)))), (3, (Q179 l2 i1))], [(12, .tok 1 5 ((l2 ++ (Q174 i1)).length))]⟩ : St) [(0 ≤ (7 : Int))] hn mix (no_hand hΓ) (by kernel_rfl) ⟨(by decide), trivial⟩ ?_
      refine awp_goto ?_
      refine then_goto ?_
      obtain rfl := Option.some.inj h
      exact ⟨rfl, rfl, Le.refl _ _⟩
    · replace h := cond_f hb h
      clear hb
      refine awp_skip ?_
      refine then_normal ?_
      obtain ⟨hc6, h⟩ := chk_some h
      refine rgs [] [(18, (AV.list 1 eU8 (0 : Int) (Q177 i1) .exact)), (19, (AV.list 1 eU8 (0 : Int) (l2 ++ (Q177 i1)) (.own 12)))] (⟨[(2, (AV.list 1 eU8 (0 : Int) (l2 ++ (Q177 i1)) (.own 12)))], [(12, .tok 1 5 ((l2 ++ (Q177 i1)).length))]⟩ : St) [(AVle (.slice 1 1 (fun i => ([[(.int .u8 (wu8 i1))]] : List (List AV)).getD i []) .exact) (AV.list 1 eU8 (0 : Int) (Q177 i1) .exact)), (l2.length = l2.length), (l2.length + (Q177 i1).length ≤ room), (AVle (.slice 1 (l2.length + (Q177 i1).length) (appF l2.length (fun i => eU8 (l2.getD i (0 : Int))) (fun i => eU8 ((Q177 i1).getD i (0 : Int)))) (.own 12)) (AV.list 1 eU8 (0 : Int) (l2 ++ (Q177 i1)) (.own 12))), (l2.length + (Q177 i1).length = (l2 ++ (Q177 i1)).length)] hn mix (no_hand hΓ) (by kernel_rfl) ⟨(av_lit rfl (fun i hi => map_get (e := eU8) (d := (0 : Int)) (Q177 i1) i hi)), rfl, hc6, av_app, (len_app _ _), trivial⟩ ?_
      refine awp_ret ?_
      obtain rfl := Option.some.inj h
      exact ⟨(by intro l hh; cases hh), rfl, ⟨.inl rfl, [(12, 20000)], by kernel_rfl⟩⟩
  · clear hx7
    rintro e st' ⟨rfl, hk⟩
    obtain rfl := Option.some.inj h
    exact hk
end Go.Proofs.YtcddajbcbkbipaaGreatDoor
