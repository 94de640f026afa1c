/-
  What the functions compute, and that they do (part 1 of 2).
-/
import Derived.Test.YtcpopeamoipjlaaFam
import Derived.Test.YtcpopeamoipjlaaExt
import Derived.Test.YtcpopeamoipjlaaProg
namespace Go.Proofs.Ytcpopeamoipjlaa
open Go Go.RowKit
set_option linter.unusedVariables false
set_option maxRecDepth 100000
set_option maxHeartbeats 2000000
def eI64 (x : Int) : List AV := [(.int .i64 x)]
def eLI64 (x : List (Int)) : List AV := [(AV.list 1 eI64 (0 : Int) x .none)]
structure TPhi where
  Bits : Int
  Dst : Int
  From : List (Int)
  Args : List (Int)
  deriving Inhabited, DecidableEq
def eTPhi (x : TPhi) : List AV := [(.int .i64 x.Bits), (.int .i64 x.Dst), (AV.list 1 eI64 (0 : Int) x.From .none), (AV.list 1 eI64 (0 : Int) x.Args .none)]
def eLTPhi (x : List (TPhi)) : List AV := [(AV.list 4 eTPhi (default : TPhi) x .none)]
def eU64 (x : Int) : List AV := [(.int .u64 x)]
structure TOp where
  Kind : Int
  Bits : Int
  Lanes : Int
  Dst : Int
  Args : List (Int)
  Imm : Int
  deriving Inhabited, DecidableEq
def eTOp (x : TOp) : List AV := [(.int .i64 x.Kind), (.int .i64 x.Bits), (.int .i64 x.Lanes), (.int .i64 x.Dst), (AV.list 1 eI64 (0 : Int) x.Args .none), (.int .u64 x.Imm)]
def eLTOp (x : List (TOp)) : List AV := [(AV.list 6 eTOp (default : TOp) x .none)]
structure TEnd where
  Kind : Int
  Arg : Int
  To : List (Int)
  deriving Inhabited, DecidableEq
def eTEnd (x : TEnd) : List AV := [(.int .i64 x.Kind), (.int .i64 x.Arg), (AV.list 1 eI64 (0 : Int) x.To .none)]
structure TBlock where
  Phis : List (TPhi)
  Ops : List (TOp)
  End : TEnd
  deriving Inhabited, DecidableEq
def eTBlock (x : TBlock) : List AV := [(AV.list 4 eTPhi (default : TPhi) x.Phis .none), (AV.list 6 eTOp (default : TOp) x.Ops .none), (.int .i64 x.End.Kind), (.int .i64 x.End.Arg), (AV.list 1 eI64 (0 : Int) x.End.To .none)]
def eLTBlock (x : List (TBlock)) : List AV := [(AV.list 5 eTBlock (default : TBlock) x .none)]
structure TFunc where
  Params : List (Int)
  Ret : Int
  Blocks : List (TBlock)
  deriving Inhabited, DecidableEq
def eTFunc (x : TFunc) : List AV := [(AV.list 1 eI64 (0 : Int) x.Params .none), (.int .i64 x.Ret), (AV.list 5 eTBlock (default : TBlock) x.Blocks .none)]
def eLLI64 (x : List (List (Int))) : List AV := [(AV.list 1 eLI64 [] x .none)]
structure TGraph where
  Succ : List (List (Int))
  Pred : List (List (Int))
  deriving Inhabited, DecidableEq
def eTGraph (x : TGraph) : List AV := [(AV.list 1 eLI64 [] x.Succ .none), (AV.list 1 eLI64 [] x.Pred .none)]
def eB (x : Bool) : List AV := [(.bool x)]
def eU8 (x : Int) : List AV := [(.int .u8 x)]
def eA2U8 (x : (Int × Int)) : List AV := [(.int .u8 x.1), (.int .u8 x.2)]
theorem mix : Try.prog.follows .mixedOrders = true := by kernel_rfl
noncomputable def m_graph_isCount (a_n : Int) : Option Bool :=
  (some (bif (decide (((1 : Int) : Int) ≤ a_n)) then (decide ((a_n : Int) ≤ (64 : Int))) else false))
theorem ok_graph_isCount (a_n : Int) (r : Bool) (h : m_graph_isCount a_n = some r) : Spec Try.prog 25 [(.int .i64 a_n)] [] (.bool r) [] := by
  refine spec_of_awp (fn := Try.f25) Try.func25 rfl rfl (by kernel_rfl) (fun Γ hn hΓ => ?_)
  have hn : Γ.n = 9 := hn
  unfold m_graph_isCount at h
  refine rgs0 (⟨[(0, (.int .i64 a_n))], [], []⟩ : St) hn mix (no_hand hΓ) (by kernel_rfl) ?_
  refine rgs [] [] (⟨[(2, (.bool (bif (decide (((1 : Int) : Int) ≤ a_n)) then (decide ((a_n : Int) ≤ (64 : Int))) else false)))], [], []⟩ : St) [(((decide (((1 : Int) : Int) ≤ a_n)) == true) = true → ((decide (((1 : Int) : Int) ≤ a_n)) == true) = true), ((decide (((1 : Int) : Int) ≤ a_n)) = true → ((decide (((1 : Int) : Int) ≤ a_n)) == true) = true)] hn mix (no_hand hΓ) (by kernel_rfl) ⟨(fun hg => hg), gT, trivial⟩ ?_
  refine awp_ret ?_
  obtain rfl := Option.some.inj h
  exact ⟨.inl rfl, [], by kernel_rfl⟩

noncomputable def Q1 (a_at : Int) := (decide (((0 : Int) : Int) ≤ a_at))
noncomputable def m_graph_isPlace (a_at : Int) (a_n : Int) : Option Bool :=
  (some (bif (decide (((0 : Int) : Int) ≤ a_at)) then (decide ((a_at : Int) < a_n)) else false))
theorem ok_graph_isPlace (a_at : Int) (a_n : Int) (r : Bool) (h : m_graph_isPlace a_at a_n = some r) : Spec Try.prog 33 [(.int .i64 a_at), (.int .i64 a_n)] [] (.bool r) [] := by
  refine spec_of_awp (fn := Try.f33) Try.func33 rfl rfl (by kernel_rfl) (fun Γ hn hΓ => ?_)
  have hn : Γ.n = 12 := hn
  unfold m_graph_isPlace at h
  refine rgs0 (⟨[(0, (.int .i64 a_at)), (1, (.int .i64 a_n))], [], []⟩ : St) hn mix (no_hand hΓ) (by kernel_rfl) ?_
  refine rgs [] [] (⟨[(4, (.bool (bif (Q1 a_at) then (decide ((a_at : Int) < a_n)) else false)))], [], []⟩ : St) [(((Q1 a_at) == true) = true → ((Q1 a_at) == true) = true), (((Q1 a_at) == true) = true → ((Q1 a_at) == true) = true), ((Q1 a_at) = true → ((Q1 a_at) == true) = true)] hn mix (no_hand hΓ) (by kernel_rfl) ⟨(fun hg => hg), (fun hg => hg), gT, trivial⟩ ?_
  refine awp_ret ?_
  obtain rfl := Option.some.inj h
  exact ⟨.inl rfl, [], by kernel_rfl⟩

noncomputable def m_graph_succMay_L1 (a_succ : List (List (Int))) (i2 : Int) : (Int × Int) → Option (LR (Int × Int) (Unit ⊕ Bool)) :=
  fun ((i4, i5) : (Int × Int)) => (bif (decide ((i5 : Int) < ((a_succ.getD (i2).toNat []).length : Int))) then (chk (InB i5 (a_succ.getD (i2).toNat []).length) ((bif ((decide ((((a_succ.getD (i2).toNat []).getD (i5).toNat (0 : Int)) : Int) ≤ i4)) == false) then m_graph_isPlace ((a_succ.getD (i2).toNat []).getD (i5).toNat (0 : Int)) (a_succ.length : Int) else some false).bind fun x7 => (bif (bif (decide ((((a_succ.getD (i2).toNat []).getD (i5).toNat (0 : Int)) : Int) ≤ i4)) then true else (!x7)) then (some (.done (.inr false))) else (some (.next (((a_succ.getD (i2).toNat []).getD (i5).toNat (0 : Int)), (w64 (i5 + (1 : Int))))))))) else (some (.done (.inl ()))))
noncomputable def m_graph_succMay_L2 (a_succ : List (List (Int))) : Int → Option (LR Int (Unit ⊕ Bool)) :=
  fun (i2 : Int) => (bif (decide ((i2 : Int) < (a_succ.length : Int))) then (chk (InB i2 a_succ.length) ((loopO (S := (Int × Int)) (X := (Unit ⊕ Bool)) (m_graph_succMay_L1 a_succ i2) ((-1 : Int), (0 : Int))).bind (fun x8 => (match x8 with | (.inl _) => (some (.next (w64 (i2 + (1 : Int))))) | (.inr r10) => (some (.done (.inr r10))))))) else (some (.done (.inl ()))))
noncomputable def Q3 (a_succ : List (List (Int))) : AV := (AV.list 1 eLI64 [] a_succ .none)
noncomputable def Q5 (a_succ : List (List (Int))) : AV := (.int .i64 (a_succ.length : Int))
noncomputable def Q6 (a_succ : List (List (Int))) (i2 : Int) : AV := (.int .i64 ((a_succ.getD (i2).toNat []).length : Int))
noncomputable def Q4 (a_succ : List (List (Int))) (i2 : Int) : AV := (AV.list 1 eI64 (0 : Int) (a_succ.getD (i2).toNat []) .none)
noncomputable def Q7 (a_succ : List (List (Int))) (i2 : Int) (i5 : Int) : AV := (.int .i64 ((a_succ.getD (i2).toNat []).getD (i5).toNat (0 : Int)))
noncomputable def Q2 (a_succ : List (List (Int))) (i2 : Int) (i5 : Int) (i4 : Int) := (decide ((((a_succ.getD (i2).toNat []).getD (i5).toNat (0 : Int)) : Int) ≤ i4))
noncomputable def Q8 (a_succ : List (List (Int))) (i2 : Int) := (⟨[(0, (Q3 a_succ)), (12, (Q3 a_succ)), (13, (Q5 a_succ)), (14, (.int .i64 i2))], [], []⟩ : St)
noncomputable def Q9 (a_succ : List (List (Int))) (i4 : Int) (i2 : Int) (i5 : Int) := (⟨[(0, (Q3 a_succ)), (5, (.int .i64 i4)), (12, (Q3 a_succ)), (13, (Q5 a_succ)), (14, (.int .i64 i2)), (18, (Q4 a_succ i2)), (19, (Q6 a_succ i2)), (20, (.int .i64 i5))], [], []⟩ : St)
noncomputable def m_graph_succMay (a_succ : List (List (Int))) : Option Bool :=
  ((m_graph_isCount (a_succ.length : Int)).bind fun x1 => (bif (!x1) then (some false) else ((loopO (S := Int) (X := (Unit ⊕ Bool)) (m_graph_succMay_L2 a_succ) (0 : Int)).bind (fun x11 => (match x11 with | (.inl _) => (some true) | (.inr r13) => (some r13))))))
theorem ok_graph_succMay (a_succ : List (List (Int))) (r : Bool) (h : m_graph_succMay a_succ = some r) : Spec Try.prog 29 [(AV.list 1 eLI64 [] a_succ .none)] [] (.bool r) [] := by
  refine spec_of_awp (fn := Try.f29) Try.func29 rfl rfl (by kernel_rfl) (fun Γ hn hΓ => ?_)
  have hn : Γ.n = 37 := hn
  unfold m_graph_succMay at h
  refine rgs0 (⟨[(0, (Q3 a_succ))], [], []⟩ : St) hn mix (no_hand hΓ) (by kernel_rfl) ?_
  refine awp_seq ?_
  obtain ⟨x1, hx1, h⟩ := bind_some h
  refine rgs [⟨[], [], (.bool x1), []⟩] [] (⟨[(0, (Q3 a_succ)), (11, (.bool (!x1)))], [], []⟩ : St) [(Spec Try.prog 25 [(Q5 a_succ)] [] (.bool x1) [])] hn mix (no_hand hΓ) (by kernel_rfl) ⟨(ok_graph_isCount (a_succ.length : Int) x1 hx1), trivial⟩ ?_
  refine awp_cond (!x1) (by kernel_rfl) (fun hb => ?_) (fun hb => ?_)
  · replace h := cond_t hb h
    clear hb
    refine rgs0 (⟨[(2, (.bool false))], [], []⟩ : St) hn mix (no_hand hΓ) (by kernel_rfl) ?_
    refine awp_ret ?_
    refine then_ret ?_
    obtain rfl := Option.some.inj h
    exact ⟨.inl rfl, [], by kernel_rfl⟩
  · replace h := cond_f hb h
    clear hb
    refine awp_skip ?_
    refine then_normal ?_
    refine awp_seq ?_
    refine rgs0 (⟨[(0, (Q3 a_succ)), (12, (Q3 a_succ)), (13, (Q5 a_succ)), (14, (.int .i64 (0 : Int)))], [], []⟩ : St) hn mix (no_hand hΓ) (by kernel_rfl) ?_
    refine awp_block ?_
    refine awp_le (st' := (fun (i2 : Int) => (Q8 a_succ i2)) (0 : Int)) (Le.refl _ _) ?_
    obtain ⟨x11, hx11, h⟩ := bind_some h
    refine awp_loop (fun (i2 : Int) => (Q8 a_succ i2)) _ (fun (x_ : (Unit ⊕ Bool)) (e : Exit) (st : St) => match x_ with | (.inl _) => e = (.exit 0) ∧ Le Γ st (⟨[], [], []⟩ : St) | (.inr r_) => e = .ret ∧ retK Try.prog Try.f29.results.toList [] (.bool r_) [] e st) ?_ hx11 ?_
    · intro i2 y h
      unfold m_graph_succMay_L2 at h
      refine rgs0 (⟨[(0, (Q3 a_succ)), (12, (Q3 a_succ)), (13, (Q5 a_succ)), (14, (.int .i64 i2)), (15, (.bool (decide ((i2 : Int) < (a_succ.length : Int)))))], [], []⟩ : St) hn mix (no_hand hΓ) (by kernel_rfl) ?_
      refine awp_seq ?_
      refine awp_cond (decide ((i2 : Int) < (a_succ.length : Int))) (by kernel_rfl) (fun hb => ?_) (fun hb => ?_)
      · replace h := cond_t hb h
        clear hb
        refine awp_skip ?_
        refine then_normal ?_
        refine awp_seq ?_
        refine awp_block ?_
        obtain ⟨hc3, h⟩ := chk_some h
        refine rgs [] [] (⟨[(0, (Q3 a_succ)), (4, (Q4 a_succ i2)), (12, (Q3 a_succ)), (13, (Q5 a_succ)), (14, (.int .i64 i2))], [], []⟩ : St) [(InB i2 a_succ.length)] hn mix (no_hand hΓ) (by kernel_rfl) ⟨hc3, trivial⟩ ?_
        refine rgs0 (⟨[(0, (Q3 a_succ)), (4, (Q4 a_succ i2)), (5, (.int .i64 (-1 : Int))), (12, (Q3 a_succ)), (13, (Q5 a_succ)), (14, (.int .i64 i2))], [], []⟩ : St) hn mix (no_hand hΓ) (by kernel_rfl) ?_
        refine rgs0 (⟨[(0, (Q3 a_succ)), (5, (.int .i64 (-1 : Int))), (12, (Q3 a_succ)), (13, (Q5 a_succ)), (14, (.int .i64 i2)), (18, (Q4 a_succ i2)), (19, (Q6 a_succ i2)), (20, (.int .i64 (0 : Int)))], [], []⟩ : St) hn mix (no_hand hΓ) (by kernel_rfl) ?_
        refine awp_block ?_
        refine awp_le (st' := (fun ((i4, i5) : (Int × Int)) => (Q9 a_succ i4 i2 i5)) ((-1 : Int), (0 : Int))) (Le.refl _ _) ?_
        obtain ⟨x8, hx8, h⟩ := bind_some h
        refine awp_loop (fun ((i4, i5) : (Int × Int)) => (Q9 a_succ i4 i2 i5)) _ (fun (x_ : (Unit ⊕ Bool)) (e : Exit) (st : St) => match x_ with | (.inl _) => e = (.exit 2) ∧ Le Γ st (Q8 a_succ i2) | (.inr r_) => e = .ret ∧ retK Try.prog Try.f29.results.toList [] (.bool r_) [] e st) ?_ hx8 ?_
        · rintro ⟨i4, i5⟩ y h
          unfold m_graph_succMay_L1 at h
          refine rgs0 (⟨[(0, (Q3 a_succ)), (5, (.int .i64 i4)), (12, (Q3 a_succ)), (13, (Q5 a_succ)), (14, (.int .i64 i2)), (18, (Q4 a_succ i2)), (19, (Q6 a_succ i2)), (20, (.int .i64 i5)), (21, (.bool (decide ((i5 : Int) < ((a_succ.getD (i2).toNat []).length : Int)))))], [], []⟩ : St) hn mix (no_hand hΓ) (by kernel_rfl) ?_
          refine awp_seq ?_
          refine awp_cond (decide ((i5 : Int) < ((a_succ.getD (i2).toNat []).length : Int))) (by kernel_rfl) (fun hb => ?_) (fun hb => ?_)
          · replace h := cond_t hb h
            clear hb
            refine awp_skip ?_
            refine then_normal ?_
            refine awp_seq ?_
            refine awp_block ?_
            obtain ⟨hc6, h⟩ := chk_some h
            refine rgs [] [] (⟨[(0, (Q3 a_succ)), (5, (.int .i64 i4)), (7, (Q7 a_succ i2 i5)), (12, (Q3 a_succ)), (13, (Q5 a_succ)), (14, (.int .i64 i2)), (18, (Q4 a_succ i2)), (19, (Q6 a_succ i2)), (20, (.int .i64 i5))], [], []⟩ : St) [(InB i5 (a_succ.getD (i2).toNat []).length)] hn mix (no_hand hΓ) (by kernel_rfl) ⟨hc6, trivial⟩ ?_
            refine awp_seq ?_
            obtain ⟨x7, hx7, h⟩ := bind_some h
            refine rgs [⟨[], [], (.bool x7), []⟩] [] (⟨[(0, (Q3 a_succ)), (7, (Q7 a_succ i2 i5)), (12, (Q3 a_succ)), (13, (Q5 a_succ)), (14, (.int .i64 i2)), (18, (Q4 a_succ i2)), (19, (Q6 a_succ i2)), (20, (.int .i64 i5)), (33, (.bool (bif (Q2 a_succ i2 i5 i4) then true else (!x7))))], [], []⟩ : St) [(((Q2 a_succ i2 i5 i4) == false) = true → ((Q2 a_succ i2 i5 i4) == false) = true), (((Q2 a_succ i2 i5 i4) == false) = true → ((Q2 a_succ i2 i5 i4) == false) = true), (((Q2 a_succ i2 i5 i4) == false) = true → ((Q2 a_succ i2 i5 i4) == false) = true), (((Q2 a_succ i2 i5 i4) == false) = true → (Spec Try.prog 33 [(Q7 a_succ i2 i5), (Q5 a_succ)] [] (.bool x7) [])), (((Q2 a_succ i2 i5 i4) == false) = true → ((Q2 a_succ i2 i5 i4) == false) = true), ((Q2 a_succ i2 i5 i4) = false → ((Q2 a_succ i2 i5 i4) == false) = true)] hn mix (no_hand hΓ) (by kernel_rfl) ⟨(fun hg => hg), (fun hg => hg), (fun hg => hg), (fun hg => (ok_graph_isPlace ((a_succ.getD (i2).toNat []).getD (i5).toNat (0 : Int)) (a_succ.length : Int) x7 (cond_t hg hx7))), (fun hg => hg), gF, trivial⟩ ?_
            refine awp_cond (bif (Q2 a_succ i2 i5 i4) then true else (!x7)) (by kernel_rfl) (fun hb => ?_) (fun hb => ?_)
            · replace h := cond_t hb h
              clear hb
              refine rgs0 (⟨[(2, (.bool false))], [], []⟩ : St) hn mix (no_hand hΓ) (by kernel_rfl) ?_
              refine awp_ret ?_
              refine then_ret ?_
              refine block_ret ?_
              refine then_ret ?_
              obtain rfl := Option.some.inj h
              exact ⟨(by intro hh; cases hh), rfl, ⟨.inl rfl, [], by kernel_rfl⟩⟩
            · replace h := cond_f hb h
              clear hb
              refine awp_skip ?_
              refine then_normal ?_
              refine rg0 (⟨[(0, (Q3 a_succ)), (5, (Q7 a_succ i2 i5)), (12, (Q3 a_succ)), (13, (Q5 a_succ)), (14, (.int .i64 i2)), (18, (Q4 a_succ i2)), (19, (Q6 a_succ i2)), (20, (.int .i64 i5))], [], []⟩ : St) hn mix (no_hand hΓ) (by kernel_rfl) ?_
              refine block_normal ?_
              refine then_normal ?_
              refine rg0 (⟨[(0, (Q3 a_succ)), (5, (Q7 a_succ i2 i5)), (12, (Q3 a_succ)), (13, (Q5 a_succ)), (14, (.int .i64 i2)), (18, (Q4 a_succ i2)), (19, (Q6 a_succ i2)), (20, (.int .i64 (w64 (i5 + (1 : Int)))))], [], []⟩ : St) hn mix (no_hand hΓ) (by kernel_rfl) ?_
              obtain rfl := Option.some.inj h
              exact ⟨rfl, Le.refl _ _⟩
          · replace h := cond_f hb h
            clear hb
            refine awp_exit ?_
            refine then_exit ?_
            obtain rfl := Option.some.inj h
            exact ⟨(by intro hh; cases hh), rfl, le_restrict_eq [0, 12, 13, 14] [] (by kernel_rfl) (no_hand hΓ)⟩
        · clear hx8
          rcases x8 with _ | r10
          · rintro e st' ⟨rfl, hl9⟩
            refine block_here ?_
            refine block_normal ?_
            refine then_normal ?_
            refine awp_le hl9 ?_
            refine rg0 (⟨[(0, (Q3 a_succ)), (12, (Q3 a_succ)), (13, (Q5 a_succ)), (14, (.int .i64 (w64 (i2 + (1 : Int)))))], [], []⟩ : St) hn mix (no_hand hΓ) (by kernel_rfl) ?_
            obtain rfl := Option.some.inj h
            exact ⟨rfl, Le.refl _ _⟩
          · rintro e st' ⟨rfl, hk⟩
            refine block_ret ?_
            refine block_ret ?_
            refine then_ret ?_
            obtain rfl := Option.some.inj h
            exact ⟨(by intro hh; cases hh), rfl, hk⟩
      · replace h := cond_f hb h
        clear hb
        refine awp_exit ?_
        refine then_exit ?_
        obtain rfl := Option.some.inj h
        exact ⟨(by intro hh; cases hh), rfl, le_restrict_eq [] [] (by kernel_rfl) (no_hand hΓ)⟩
    · clear hx11
      rcases x11 with _ | r13
      · rintro e st' ⟨rfl, hl12⟩
        refine block_here ?_
        refine then_normal ?_
        refine awp_le hl12 ?_
        refine rgs0 (⟨[(2, (.bool true))], [], []⟩ : St) hn mix (no_hand hΓ) (by kernel_rfl) ?_
        refine awp_ret ?_
        obtain rfl := Option.some.inj h
        exact ⟨.inl rfl, [], by kernel_rfl⟩
      · rintro e st' ⟨rfl, hk⟩
        refine block_ret ?_
        refine then_ret ?_
        obtain rfl := Option.some.inj h
        exact hk

noncomputable def Q10 : AV := (AV.list 1 eI64 (0 : Int) ([] : List Int) .exact)
noncomputable def Q11 := (⟨[(2, (AV.list 1 eI64 (0 : Int) ([] : List Int) (.own 6002)))], [(6002, .tok 1 3 (([] : List Int).length))], []⟩ : St)
noncomputable def m_slices_Clone_int_int (a_s : List (Int)) : Option (List (Int)) :=
  (chk (([] : List Int).length + a_s.length ≤ room) (some (([] : List Int) ++ a_s)))
theorem ok_slices_Clone_int_int (a_s : List (Int)) (r : List (Int)) (h : m_slices_Clone_int_int a_s = some r) : Spec Try.prog 36 [(AV.list 1 eI64 (0 : Int) a_s .none)] [] (AV.list 1 eI64 (0 : Int) r (.own 20000)) [(20000, .tok 1 3 r.length)] := by
  refine spec_of_awp (fn := Try.f36) Try.func36 rfl rfl (by kernel_rfl) (fun Γ hn hΓ => ?_)
  have hn : Γ.n = 8 := hn
  unfold m_slices_Clone_int_int at h
  refine rgs [] [(2, Q10)] (⟨[(0, (AV.list 1 eI64 (0 : Int) a_s .none))], [], []⟩ : St) [(AVle (.slice 0 0 (fun _ => []) .exact) Q10)] hn mix (no_hand hΓ) (by kernel_rfl) ⟨av_nil, trivial⟩ ?_
  refine awp_seq ?_
  refine rgs0 (⟨[(0, (AV.list 1 eI64 (0 : Int) a_s .none)), (4, (.nilq true a_s.length))], [], []⟩ : St) hn mix (no_hand hΓ) (by kernel_rfl) ?_
  refine awp_nilq true a_s.length (by kernel_rfl) (fun hb => ?_) (fun hb => ?_)
  · replace h := nil_at (some ([] : List Int)) (fun (l2 : List Int) => (chk (([] : List Int).length + l2.length ≤ room) (some (([] : List Int) ++ l2)))) h (hb rfl) rfl (fun h0 => by first | exact h0 | simpa [chk, room] using h0)
    clear hb
    refine rgs [] [(2, Q10)] (⟨[(2, Q10)], [], []⟩ : St) [(AVle (.slice 0 0 (fun _ => []) .exact) Q10)] hn mix (no_hand hΓ) (by kernel_rfl) ⟨av_nil, trivial⟩ ?_
    refine awp_le (st' := Q11) (Le.trans (le_restrict_eq (st' := (⟨[(2, Q10)], [], []⟩ : St)) [2] [] (by kernel_rfl) (no_hand hΓ)) (Le.trans (le_tag (t := 2) (nm := 6002) (sz' := 1) (fun i => eI64 (([] : List Int).getD i (0 : Int))) 3 rfl rfl (.inl ⟨rfl, rfl⟩) (fun h_ => absurd h_ (by decide))) (le_restrict_eq (st' := Q11) [2] [6002] (by kernel_rfl) (no_hand hΓ)))) ?_
    refine awp_ret ?_
    refine then_ret ?_
    obtain rfl := Option.some.inj h
    exact ⟨.inl rfl, [(6002, 20000)], by kernel_rfl⟩
  · clear hb
    refine awp_skip ?_
    refine then_normal ?_
    obtain ⟨hc1, h⟩ := chk_some h
    refine rgs [] [(5, Q10), (7, (AV.list 1 eI64 (0 : Int) (([] : List Int) ++ a_s) (.own 7)))] (⟨[(2, (AV.list 1 eI64 (0 : Int) (([] : List Int) ++ a_s) (.own 7)))], [(7, .tok 1 3 ((([] : List Int) ++ a_s).length))], []⟩ : St) [(AVle (.slice 1 0 (fun i => ([] : List (List AV)).getD i []) .exact) Q10), (([] : List Int).length + a_s.length ≤ room), (3 = tokU8 → ([] : List Int).length = 0 ∨ 0 < a_s.length), (AVle (.slice 1 (([] : List Int).length + a_s.length) (appF ([] : List Int).length (fun i => eI64 (([] : List Int).getD i (0 : Int))) (fun i => eI64 (a_s.getD i (0 : Int)))) (.own 7)) (AV.list 1 eI64 (0 : Int) (([] : List Int) ++ a_s) (.own 7))), (([] : List Int).length + a_s.length = (([] : List Int) ++ a_s).length)] hn mix (no_hand hΓ) (by kernel_rfl) ⟨av_lit rfl (fun i hi => absurd hi (Nat.not_lt_zero i)), hc1, (fun h_ => absurd h_ (by decide)), av_app, (len_app _ _), trivial⟩ ?_
    refine awp_ret ?_
    obtain rfl := Option.some.inj h
    exact ⟨.inl rfl, [(7, 20000)], by kernel_rfl⟩

noncomputable def m_graph_copied_L1 (a_lists : List (List (Int))) : (Int × List (List (Int))) → Option (LR (Int × List (List (Int))) (List (List (Int)))) :=
  fun ((i2, l3) : (Int × List (List (Int)))) => (bif (decide ((i2 : Int) < (a_lists.length : Int))) then (chk (InB i2 a_lists.length) ((m_slices_Clone_int_int (a_lists.getD (i2).toNat [])).bind fun x6 => (chk (InB i2 l3.length) (some (.next ((w64 (i2 + (1 : Int))), (l3.set (i2).toNat x6))))))) else (some (.done l3)))
noncomputable def Q15 (a_lists : List (List (Int))) := (a_lists.length : Int)
noncomputable def Q16 (a_lists : List (List (Int))) : AV := (AV.list 1 eLI64 [] a_lists .none)
noncomputable def Q14 (l3 : List (List (Int))) : List (Nat × Own) := [(8, .arr 1 22 l3.length (fun i => eLI64 (l3.getD i [])))]
noncomputable def Q13 (a_lists : List (List (Int))) := (List.replicate ((Q15 a_lists)).toNat ([] : List (Int)))
noncomputable def Q12 (l3 : List (List (Int))) (a_lists : List (List (Int))) (i2 : Int) : List (Nat × AV) := [(3, (.vsl 8 l3.length)), (9, (Q16 a_lists)), (10, (.int .i64 (Q15 a_lists))), (11, (.int .i64 i2))]
noncomputable def m_graph_copied (a_lists : List (List (Int))) : Option (List (List (Int))) :=
  (chk (0 ≤ (a_lists.length : Int) ∧ (a_lists.length : Int) ≤ (a_lists.length : Int) ∧ (a_lists.length : Int) ≤ (room : Int)) ((loopO (S := (Int × List (List (Int)))) (X := List (List (Int))) (m_graph_copied_L1 a_lists) ((0 : Int), (List.replicate ((a_lists.length : Int)).toNat ([] : List (Int))))).bind (fun x8 => ((some x8)))))
theorem ok_graph_copied (a_lists : List (List (Int))) (r : List (List (Int))) (h : m_graph_copied a_lists = some r) : Spec Try.prog 32 [(AV.list 1 eLI64 [] a_lists .none)] [] (AV.list 1 eLI64 [] r (.own 20000)) [(20000, .tok 1 22 r.length)] := by
  refine spec_of_awp (fn := Try.f32) Try.func32 rfl rfl (by kernel_rfl) (fun Γ hn hΓ => ?_)
  have hn : Γ.n = 23 := hn
  unfold m_graph_copied at h
  refine rgs [] [(2, (AV.list 1 eLI64 [] ([] : List (List (Int))) .exact))] (⟨[(0, (Q16 a_lists))], [], []⟩ : St) [(AVle (.slice 0 0 (fun _ => []) .exact) (AV.list 1 eLI64 [] ([] : List (List (Int))) .exact))] hn mix (no_hand hΓ) (by kernel_rfl) ⟨av_nil, trivial⟩ ?_
  obtain ⟨hc1, h⟩ := chk_some h
  refine rgs [] [] (⟨[(0, (Q16 a_lists)), (3, (.vsl 8 ((Q15 a_lists)).toNat))], [(8, .arr 1 22 (((Q15 a_lists)).toNat) (fun i_ => AV.eraseAll (fun n_ => memB n_ [8]) ((fun _ => [(.slice 0 0 (fun _ => []) .exact)]) i_)))], []⟩ : St) [(0 ≤ (Q15 a_lists) ∧ (Q15 a_lists) ≤ (Q15 a_lists) ∧ (Q15 a_lists) ≤ (room : Int))] hn mix (no_hand hΓ) (by kernel_rfl) ⟨hc1, trivial⟩ ?_
  refine awp_le (Le.trans (le_of (st' := (⟨[(0, (Q16 a_lists)), (3, (.vsl 8 ((Q15 a_lists)).toNat))], [(8, .arr 1 22 (((Q15 a_lists)).toNat) (fun i => eLI64 ((Q13 a_lists).getD i [])))], []⟩ : St)) (TmpsLe.refl _) (.arr (fun k hk => make_le (e := eLI64) (d := []) (.cons (fun _ _ _ _ _ hh => AVle.untag _ _ _ _ _ (av_nil _ _ _ _ _ hh)) .nil) _ k (repl_lt hk)) .nil)) (le_eq (congrArg (fun k_ : Nat => (⟨[(0, (Q16 a_lists)), (3, (.vsl 8 k_))], [(8, .arr 1 22 k_ (fun i => eLI64 ((Q13 a_lists).getD i [])))], []⟩ : St)) (show ((Q15 a_lists)).toNat = (Q13 a_lists).length from (List.length_replicate ..).symm)))) ?_
  refine awp_seq ?_
  refine rgs0 (⟨[(3, (.vsl 8 (Q13 a_lists).length)), (9, (Q16 a_lists)), (10, (.int .i64 (Q15 a_lists))), (11, (.int .i64 (0 : Int)))], [(8, .arr 1 22 ((Q13 a_lists).length) (fun i => eLI64 ((Q13 a_lists).getD i [])))], []⟩ : St) hn mix (no_hand hΓ) (by kernel_rfl) ?_
  refine awp_block ?_
  refine awp_le (st' := (fun ((i2, l3) : (Int × List (List (Int)))) => (⟨(Q12 l3 a_lists i2), (Q14 l3), []⟩ : St)) ((0 : Int), (Q13 a_lists))) (Le.refl _ _) ?_
  obtain ⟨x8, hx8, h⟩ := bind_some h
  refine awp_loop (fun ((i2, l3) : (Int × List (List (Int)))) => (⟨(Q12 l3 a_lists i2), (Q14 l3), []⟩ : St)) _ (fun (l4 : List (List (Int))) (e : Exit) (st : St) => e = (.exit 0) ∧ Le Γ st (⟨[(3, (.vsl 8 l4.length))], [(8, .arr 1 22 l4.length (fun i => eLI64 (l4.getD i [])))], []⟩ : St)) ?_ hx8 ?_
  · rintro ⟨i2, l3⟩ y h
    unfold m_graph_copied_L1 at h
    refine rgs0 (⟨[(3, (.vsl 8 l3.length)), (9, (Q16 a_lists)), (10, (.int .i64 (Q15 a_lists))), (11, (.int .i64 i2)), (12, (.bool (decide ((i2 : Int) < (Q15 a_lists)))))], (Q14 l3), []⟩ : St) hn mix (no_hand hΓ) (by kernel_rfl) ?_
    refine awp_seq ?_
    refine awp_cond (decide ((i2 : Int) < (Q15 a_lists))) (by kernel_rfl) (fun hb => ?_) (fun hb => ?_)
    · replace h := cond_t hb h
      clear hb
      refine awp_skip ?_
      refine then_normal ?_
      refine awp_seq ?_
      refine awp_block ?_
      obtain ⟨hc5, h⟩ := chk_some h
      refine rgs [] [] (⟨[(3, (.vsl 8 l3.length)), (4, (.int .i64 i2)), (5, (AV.list 1 eI64 (0 : Int) (a_lists.getD (i2).toNat []) .none)), (9, (Q16 a_lists)), (10, (.int .i64 (Q15 a_lists))), (11, (.int .i64 i2))], (Q14 l3), []⟩ : St) [(InB i2 a_lists.length)] hn mix (no_hand hΓ) (by kernel_rfl) ⟨hc5, trivial⟩ ?_
      obtain ⟨x6, hx6, h⟩ := bind_some h
      obtain ⟨hc7, h⟩ := chk_some h
      refine rg [⟨[], [(20000, 19)], (AV.list 1 eI64 (0 : Int) x6 (.own 20000)), [(20000, .tok 1 3 x6.length)]⟩] [] (⟨(Q12 l3 a_lists i2), [(8, .arr 1 22 l3.length (fun i_ => AV.eraseAll (fun n_ => memB n_ [8]) ((putF (fun i => eLI64 (l3.getD i [])) (i2).toNat 0 [(AV.list 1 eI64 (0 : Int) x6 (.own 19))]) i_)))], []⟩ : St) [(Spec Try.prog 36 [(AV.list 1 eI64 (0 : Int) (a_lists.getD (i2).toNat []) .none)] [] (AV.list 1 eI64 (0 : Int) x6 (.own 20000)) [(20000, .tok 1 3 x6.length)]), (InB i2 l3.length), (l3.length = l3.length)] hn mix (no_hand hΓ) (by kernel_rfl) ⟨(ok_slices_Clone_int_int (a_lists.getD (i2).toNat []) x6 hx6), hc7, rfl, trivial⟩ ?_
      refine block_normal ?_
      refine then_normal ?_
      refine awp_le (Le.trans (le_of (st' := (⟨(Q12 l3 a_lists i2), [(8, .arr 1 22 l3.length (fun i => eLI64 ((l3.set (i2).toNat x6).getD i [])))], []⟩ : St)) (TmpsLe.refl _) (.arr (leL_of_eq (List.length_set ..).symm (putF_erase (fun _ _ => rfl) (fun _ => rfl) (inB_lt0 hc7) rfl)) .nil)) (le_eq (congrArg (fun k_ : Nat => (⟨[(3, (.vsl 8 k_)), (9, (Q16 a_lists)), (10, (.int .i64 (Q15 a_lists))), (11, (.int .i64 i2))], [(8, .arr 1 22 k_ (fun i => eLI64 ((l3.set (i2).toNat x6).getD i [])))], []⟩ : St)) (show l3.length = (l3.set (i2).toNat x6).length from (List.length_set ..).symm)))) ?_
      refine rg0 (⟨[(3, (.vsl 8 (l3.set (i2).toNat x6).length)), (9, (Q16 a_lists)), (10, (.int .i64 (Q15 a_lists))), (11, (.int .i64 (w64 (i2 + (1 : Int)))))], [(8, .arr 1 22 ((l3.set (i2).toNat x6).length) (fun i => eLI64 ((l3.set (i2).toNat x6).getD i [])))], []⟩ : St) hn mix (no_hand hΓ) (by kernel_rfl) ?_
      obtain rfl := Option.some.inj h
      exact ⟨rfl, Le.refl _ _⟩
    · replace h := cond_f hb h
      clear hb
      refine awp_exit ?_
      refine then_exit ?_
      obtain rfl := Option.some.inj h
      exact ⟨(by intro hh; cases hh), rfl, le_restrict_eq [3] [8] (by kernel_rfl) (no_hand hΓ)⟩
  · clear hx8
    rintro e st' ⟨rfl, hl9⟩
    refine block_here ?_
    refine then_normal ?_
    refine awp_le hl9 ?_
    refine rgs0 (⟨[(2, (.vsl 8 x8.length))], [(8, .arr 1 22 x8.length (fun i => eLI64 (x8.getD i [])))], []⟩ : St) hn mix (no_hand hΓ) (by kernel_rfl) ?_
    refine awp_le (Le.trans (le_freeze (nm := 8) (sz := 1) (n := x8.length) (e := 22) (f := (fun i => eLI64 (x8.getD i []))) (g := (fun i => eLI64 (x8.getD i []))) rfl ⟨rfl, trivial⟩ (fun _ _ => rfl) (by rw [hΓ]; rfl)) (le_eq (st' := (⟨[(2, (AV.list 1 eLI64 [] x8 (.own 8)))], [(8, .tok 1 22 x8.length)], []⟩ : St)) (by kernel_rfl))) ?_
    refine awp_ret ?_
    obtain rfl := Option.some.inj h
    exact ⟨.inl rfl, [(8, 20000)], by kernel_rfl⟩

noncomputable def m_graph_comers_L1 (a_succ : List (List (Int))) (i2 : Int) : (Int × List (List (Int))) → Option (LR (Int × List (List (Int))) (List (List (Int)))) :=
  fun ((i6, l7) : (Int × List (List (Int)))) => (bif (decide ((i6 : Int) < ((a_succ.getD (i2).toNat []).length : Int))) then (chk (InB i6 (a_succ.getD (i2).toNat []).length) (chk (InB ((a_succ.getD (i2).toNat []).getD (i6).toNat (0 : Int)) l7.length) (chk (InB ((a_succ.getD (i2).toNat []).getD (i6).toNat (0 : Int)) l7.length) (chk ((l7.getD (((a_succ.getD (i2).toNat []).getD (i6).toNat (0 : Int))).toNat []).length + ([i2] : List (Int)).length ≤ room) (chk (InB ((a_succ.getD (i2).toNat []).getD (i6).toNat (0 : Int)) l7.length) (some (.next ((w64 (i6 + (1 : Int))), (l7.set (((a_succ.getD (i2).toNat []).getD (i6).toNat (0 : Int))).toNat ((l7.getD (((a_succ.getD (i2).toNat []).getD (i6).toNat (0 : Int))).toNat []) ++ ([i2] : List (Int)))))))))))) else (some (.done l7)))
noncomputable def m_graph_comers_L2 (a_succ : List (List (Int))) : (Int × List (List (Int))) → Option (LR (Int × List (List (Int))) (List (List (Int)))) :=
  fun ((i2, l3) : (Int × List (List (Int)))) => (bif (decide ((i2 : Int) < (a_succ.length : Int))) then (chk (InB i2 a_succ.length) ((loopO (S := (Int × List (List (Int)))) (X := List (List (Int))) (m_graph_comers_L1 a_succ i2) ((0 : Int), l3)).bind (fun x14 => ((some (.next ((w64 (i2 + (1 : Int))), x14))))))) else (some (.done l3)))
noncomputable def Q21 (i2 : Int) := ([i2] : List (Int))
noncomputable def Q25 (a_succ : List (List (Int))) : AV := (AV.list 1 eLI64 [] a_succ .none)
noncomputable def Q27 (a_succ : List (List (Int))) : AV := (.int .i64 (a_succ.length : Int))
noncomputable def Q17 (a_succ : List (List (Int))) (i2 : Int) (i6 : Int) := ((a_succ.getD (i2).toNat []).getD (i6).toNat (0 : Int))
noncomputable def Q24 (l7 : List (List (Int))) (a_succ : List (List (Int))) (i2 : Int) (i6 : Int) := (l7.getD ((Q17 a_succ i2 i6)).toNat [])
noncomputable def Q28 (a_succ : List (List (Int))) (i2 : Int) := ((a_succ.getD (i2).toNat []).length : Int)
noncomputable def Q26 (a_succ : List (List (Int))) (i2 : Int) : AV := (AV.list 1 eI64 (0 : Int) (a_succ.getD (i2).toNat []) .none)
noncomputable def Q19 (a_succ : List (List (Int))) := (List.replicate ((a_succ.length : Int)).toNat ([] : List (Int)))
noncomputable def Q20 (l3 : List (List (Int))) : List (Nat × Own) := [(10, .arr 1 22 l3.length (rowF 1 eI64 (0 : Int) l3 (Tag.fam 70010)))]
noncomputable def Q22 (l7 : List (List (Int))) : List (Nat × Own) := [(10, .arr 1 22 l7.length (rowF 1 eI64 (0 : Int) l7 (Tag.fam 70010)))]
noncomputable def Q29 (l7 : List (List (Int))) (a_succ : List (List (Int))) (i2 : Int) (i6 : Int) := (l7.set ((Q17 a_succ i2 i6)).toNat ((Q24 l7 a_succ i2 i6) ++ (Q21 i2)))
noncomputable def Q23 (a_succ : List (List (Int))) : List (Nat × AV) := [(0, (Q25 a_succ)), (3, (.vsl 10 ((a_succ.length : Int)).toNat))]
noncomputable def Q30 (l7 : List (List (Int))) (i2 : Int) (a_succ : List (List (Int))) (i6 : Int) : List (Nat × AV) := [(3, (.vsl 10 l7.length)), (4, (.int .i64 i2)), (7, (.int .i64 (Q17 a_succ i2 i6))), (11, (Q25 a_succ)), (12, (Q27 a_succ)), (13, (.int .i64 i2)), (18, (Q26 a_succ i2)), (19, (.int .i64 (Q28 a_succ i2))), (20, (.int .i64 i6))]
noncomputable def Q18 (l7 : List (List (Int))) (i2 : Int) (a_succ : List (List (Int))) (i6 : Int) : List (Nat × AV) := [(3, (.vsl 10 l7.length)), (4, (.int .i64 i2)), (11, (Q25 a_succ)), (12, (Q27 a_succ)), (13, (.int .i64 i2)), (18, (Q26 a_succ i2)), (19, (.int .i64 (Q28 a_succ i2))), (20, (.int .i64 i6))]
noncomputable def m_graph_comers (a_succ : List (List (Int))) : Option (List (List (Int))) :=
  (chk (0 ≤ (a_succ.length : Int) ∧ (a_succ.length : Int) ≤ (a_succ.length : Int) ∧ (a_succ.length : Int) ≤ (room : Int)) ((loopO (S := (Int × List (List (Int)))) (X := List (List (Int))) (m_graph_comers_L2 a_succ) ((0 : Int), (List.replicate ((a_succ.length : Int)).toNat ([] : List (Int))))).bind (fun x16 => ((some x16)))))
theorem ok_graph_comers (a_succ : List (List (Int))) (r : List (List (Int))) (h : m_graph_comers a_succ = some r) : Spec Try.prog 28 [(AV.list 1 eLI64 [] a_succ .none)] [] (AV.list 1 eLI64 [] r (.own 20000)) [(20000, .tok 1 22 r.length)] := by
  refine spec_of_awp (fn := Try.f28) Try.func28 rfl rfl (by kernel_rfl) (fun Γ hn hΓ => ?_)
  have hn : Γ.n = 37 := hn
  unfold m_graph_comers at h
  refine rgs [] [(2, (AV.list 1 eLI64 [] ([] : List (List (Int))) .exact))] (⟨[(0, (Q25 a_succ))], [], []⟩ : St) [(AVle (.slice 0 0 (fun _ => []) .exact) (AV.list 1 eLI64 [] ([] : List (List (Int))) .exact))] hn mix (no_hand hΓ) (by kernel_rfl) ⟨av_nil, trivial⟩ ?_
  obtain ⟨hc1, h⟩ := chk_some h
  refine rgs [] [] (⟨(Q23 a_succ), [(10, .arr 1 22 (((a_succ.length : Int)).toNat) (fun i_ => AV.eraseAll (fun n_ => memB n_ [10]) ((fun _ => [(.slice 0 0 (fun _ => []) .exact)]) i_)))], []⟩ : St) [(0 ≤ (a_succ.length : Int) ∧ (a_succ.length : Int) ≤ (a_succ.length : Int) ∧ (a_succ.length : Int) ≤ (room : Int))] hn mix (no_hand hΓ) (by kernel_rfl) ⟨hc1, trivial⟩ ?_
  refine awp_le (Le.trans (le_of (st' := (⟨(Q23 a_succ), [(10, .arr 1 22 (((a_succ.length : Int)).toNat) (rowF 1 eI64 (0 : Int) (Q19 a_succ) (fun _ => .exact)))], []⟩ : St)) (TmpsLe.refl _) (.arr fam_zero .nil)) (Le.trans (Le.trans (le_birth (r := 10) (b := 70010) eI64 (0 : Int) (Q19 a_succ) 3 rfl rfl (List.length_replicate ..).symm (fun h_ => absurd h_ (by decide))) (le_eq (st' := (⟨(Q23 a_succ), [(10, .arr 1 22 (((a_succ.length : Int)).toNat) (rowF 1 eI64 (0 : Int) (Q19 a_succ) (Tag.fam 70010)))], [(70010, ⟨1, 3, famM (Q19 a_succ)⟩)]⟩ : St)) (by kernel_rfl))) (le_eq (congrArg (fun k_ : Nat => (⟨[(0, (Q25 a_succ)), (3, (.vsl 10 k_))], [(10, .arr 1 22 k_ (rowF 1 eI64 (0 : Int) (Q19 a_succ) (Tag.fam 70010)))], [(70010, ⟨1, 3, famM (Q19 a_succ)⟩)]⟩ : St)) (show ((a_succ.length : Int)).toNat = (Q19 a_succ).length from (List.length_replicate ..).symm))))) ?_
  refine awp_seq ?_
  refine rgs0 (⟨[(3, (.vsl 10 (Q19 a_succ).length)), (11, (Q25 a_succ)), (12, (Q27 a_succ)), (13, (.int .i64 (0 : Int)))], [(10, .arr 1 22 ((Q19 a_succ).length) (rowF 1 eI64 (0 : Int) (Q19 a_succ) (Tag.fam 70010)))], [(70010, ⟨1, 3, famM (Q19 a_succ)⟩)]⟩ : St) hn mix (no_hand hΓ) (by kernel_rfl) ?_
  refine awp_block ?_
  refine awp_le (st' := (fun ((i2, l3) : (Int × List (List (Int)))) => (⟨[(3, (.vsl 10 l3.length)), (11, (Q25 a_succ)), (12, (Q27 a_succ)), (13, (.int .i64 i2))], (Q20 l3), [(70010, ⟨1, 3, famM l3⟩)]⟩ : St)) ((0 : Int), (Q19 a_succ))) (Le.refl _ _) ?_
  obtain ⟨x16, hx16, h⟩ := bind_some h
  refine awp_loop (fun ((i2, l3) : (Int × List (List (Int)))) => (⟨[(3, (.vsl 10 l3.length)), (11, (Q25 a_succ)), (12, (Q27 a_succ)), (13, (.int .i64 i2))], (Q20 l3), [(70010, ⟨1, 3, famM l3⟩)]⟩ : St)) _ (fun (l4 : List (List (Int))) (e : Exit) (st : St) => e = (.exit 0) ∧ Le Γ st (⟨[(3, (.vsl 10 l4.length))], [(10, .arr 1 22 l4.length (rowF 1 eI64 (0 : Int) l4 (Tag.fam 70010)))], [(70010, ⟨1, 3, famM l4⟩)]⟩ : St)) ?_ hx16 ?_
  · rintro ⟨i2, l3⟩ y h
    unfold m_graph_comers_L2 at h
    refine rgs0 (⟨[(3, (.vsl 10 l3.length)), (11, (Q25 a_succ)), (12, (Q27 a_succ)), (13, (.int .i64 i2)), (14, (.bool (decide ((i2 : Int) < (a_succ.length : Int)))))], (Q20 l3), [(70010, ⟨1, 3, famM l3⟩)]⟩ : St) hn mix (no_hand hΓ) (by kernel_rfl) ?_
    refine awp_seq ?_
    refine awp_cond (decide ((i2 : Int) < (a_succ.length : Int))) (by kernel_rfl) (fun hb => ?_) (fun hb => ?_)
    · replace h := cond_t hb h
      clear hb
      refine awp_skip ?_
      refine then_normal ?_
      refine awp_seq ?_
      refine awp_block ?_
      obtain ⟨hc5, h⟩ := chk_some h
      refine rgs [] [] (⟨[(3, (.vsl 10 l3.length)), (4, (.int .i64 i2)), (5, (Q26 a_succ i2)), (11, (Q25 a_succ)), (12, (Q27 a_succ)), (13, (.int .i64 i2))], (Q20 l3), [(70010, ⟨1, 3, famM l3⟩)]⟩ : St) [(InB i2 a_succ.length)] hn mix (no_hand hΓ) (by kernel_rfl) ⟨hc5, trivial⟩ ?_
      refine rgs0 (⟨[(3, (.vsl 10 l3.length)), (4, (.int .i64 i2)), (11, (Q25 a_succ)), (12, (Q27 a_succ)), (13, (.int .i64 i2)), (18, (Q26 a_succ i2)), (19, (.int .i64 (Q28 a_succ i2))), (20, (.int .i64 (0 : Int)))], (Q20 l3), [(70010, ⟨1, 3, famM l3⟩)]⟩ : St) hn mix (no_hand hΓ) (by kernel_rfl) ?_
      refine awp_block ?_
      refine awp_le (st' := (fun ((i6, l7) : (Int × List (List (Int)))) => (⟨(Q18 l7 i2 a_succ i6), (Q22 l7), [(70010, ⟨1, 3, famM l7⟩)]⟩ : St)) ((0 : Int), l3)) (Le.refl _ _) ?_
      obtain ⟨x14, hx14, h⟩ := bind_some h
      refine awp_loop (fun ((i6, l7) : (Int × List (List (Int)))) => (⟨(Q18 l7 i2 a_succ i6), (Q22 l7), [(70010, ⟨1, 3, famM l7⟩)]⟩ : St)) _ (fun (l8 : List (List (Int))) (e : Exit) (st : St) => e = (.exit 2) ∧ Le Γ st (⟨[(3, (.vsl 10 l8.length)), (11, (Q25 a_succ)), (12, (Q27 a_succ)), (13, (.int .i64 i2))], [(10, .arr 1 22 l8.length (rowF 1 eI64 (0 : Int) l8 (Tag.fam 70010)))], [(70010, ⟨1, 3, famM l8⟩)]⟩ : St)) ?_ hx14 ?_
      · rintro ⟨i6, l7⟩ y h
        unfold m_graph_comers_L1 at h
        refine rgs0 (⟨[(3, (.vsl 10 l7.length)), (4, (.int .i64 i2)), (11, (Q25 a_succ)), (12, (Q27 a_succ)), (13, (.int .i64 i2)), (18, (Q26 a_succ i2)), (19, (.int .i64 (Q28 a_succ i2))), (20, (.int .i64 i6)), (21, (.bool (decide ((i6 : Int) < (Q28 a_succ i2)))))], (Q22 l7), [(70010, ⟨1, 3, famM l7⟩)]⟩ : St) hn mix (no_hand hΓ) (by kernel_rfl) ?_
        refine awp_seq ?_
        refine awp_cond (decide ((i6 : Int) < (Q28 a_succ i2))) (by kernel_rfl) (fun hb => ?_) (fun hb => ?_)
        · replace h := cond_t hb h
          clear hb
          refine awp_skip ?_
          refine then_normal ?_
          refine awp_seq ?_
          refine awp_block ?_
          obtain ⟨hc9, h⟩ := chk_some h
          refine rgs [] [] (⟨(Q30 l7 i2 a_succ i6), (Q22 l7), [(70010, ⟨1, 3, famM l7⟩)]⟩ : St) [(InB i6 (a_succ.getD (i2).toNat []).length)] hn mix (no_hand hΓ) (by kernel_rfl) ⟨hc9, trivial⟩ ?_
          obtain ⟨hc10, h⟩ := chk_some h
          obtain ⟨hc11, h⟩ := chk_some h
          obtain ⟨hc12, h⟩ := chk_some h
          obtain ⟨hc13, h⟩ := chk_some h
          refine awp_le (Le.trans (le_take (r := 10) (b := 70010) (k := 60010) eI64 (0 : Int) l7 ((Q17 a_succ i2 i6)).toNat 3 rfl rfl rfl rfl (inB_lit hc10) (by kernel_rfl) (.here .nil)) (le_eq (st' := (⟨(Q30 l7 i2 a_succ i6), [(10, .arr 1 22 l7.length (rowF 1 eI64 (0 : Int) l7 (famTag 70010 ((Q17 a_succ i2 i6)).toNat 60010))), (60010, .tok 1 3 ((Q24 l7 a_succ i2 i6).length))], [(70010, ⟨1, 3, holeM l7 ((Q17 a_succ i2 i6)).toNat⟩)]⟩ : St)) (by kernel_rfl))) ?_
          refine rg [] [(29, (AV.list 1 eI64 (0 : Int) (Q24 l7 a_succ i2 i6) (.own 60010))), (31, (AV.list 1 eI64 (0 : Int) (Q21 i2) .exact)), (32, (AV.list 1 eI64 (0 : Int) ((Q24 l7 a_succ i2 i6) ++ (Q21 i2)) (.own 60010)))] (⟨(Q18 l7 i2 a_succ i6), [(10, .arr 1 22 l7.length (fun i_ => AV.eraseAll (fun n_ => memB n_ [10, 60010, 70010]) ((putF (rowF 1 eI64 (0 : Int) l7 (famTag 70010 ((Q17 a_succ i2 i6)).toNat 60010)) ((Q17 a_succ i2 i6)).toNat 0 [(AV.list 1 eI64 (0 : Int) ((Q24 l7 a_succ i2 i6) ++ (Q21 i2)) (.own 60010))]) i_))), (60010, .tok 1 3 (((Q24 l7 a_succ i2 i6) ++ (Q21 i2)).length))], [(70010, ⟨1, 3, holeM l7 ((Q17 a_succ i2 i6)).toNat⟩)]⟩ : St) [(InB (Q17 a_succ i2 i6) l7.length), (l7.length = l7.length), (AVle (((rowF 1 eI64 (0 : Int) l7 (famTag 70010 ((Q17 a_succ i2 i6)).toNat 60010)) ((Q17 a_succ i2 i6)).toNat).getD 0 .any) (AV.list 1 eI64 (0 : Int) (Q24 l7 a_succ i2 i6) (.own 60010))), (AVle (.slice 1 1 (fun i => ([[(.int .i64 i2)]] : List (List AV)).getD i []) .exact) (AV.list 1 eI64 (0 : Int) (Q21 i2) .exact)), ((Q24 l7 a_succ i2 i6).length = (Q24 l7 a_succ i2 i6).length), ((Q24 l7 a_succ i2 i6).length + (Q21 i2).length ≤ room), (AVle (.slice 1 ((Q24 l7 a_succ i2 i6).length + (Q21 i2).length) (appF (Q24 l7 a_succ i2 i6).length (fun i => eI64 ((Q24 l7 a_succ i2 i6).getD i (0 : Int))) (fun i => eI64 ((Q21 i2).getD i (0 : Int)))) (.own 60010)) (AV.list 1 eI64 (0 : Int) ((Q24 l7 a_succ i2 i6) ++ (Q21 i2)) (.own 60010))), ((Q24 l7 a_succ i2 i6).length + (Q21 i2).length = ((Q24 l7 a_succ i2 i6) ++ (Q21 i2)).length), (InB (Q17 a_succ i2 i6) l7.length), (l7.length = l7.length)] hn mix (no_hand hΓ) (by kernel_rfl) ⟨hc11, rfl, av_famtag, (av_lit rfl (fun i hi => map_get (e := eI64) (d := (0 : Int)) (Q21 i2) i hi)), rfl, hc12, av_app, (len_app _ _), hc13, rfl, trivial⟩ ?_
          refine block_normal ?_
          refine then_normal ?_
          refine awp_le (Le.trans (Le.trans (le_put (r := 10) (b := 70010) (k := 60010) eI64 (0 : Int) l7 ((Q17 a_succ i2 i6)).toNat ((Q24 l7 a_succ i2 i6) ++ (Q21 i2)) 3 rfl (putF_fam (inB_lit hc10) rfl rfl) rfl rfl rfl rfl (inB_lit hc10) (by kernel_rfl) (.here (.tok .nil)) (by rw [hΓ]; rfl)) (le_eq (st' := (⟨(Q18 l7 i2 a_succ i6), [(10, .arr 1 22 l7.length (rowF 1 eI64 (0 : Int) (Q29 l7 a_succ i2 i6) (Tag.fam 70010)))], [(70010, ⟨1, 3, famM (Q29 l7 a_succ i2 i6)⟩)]⟩ : St)) (by kernel_rfl))) (le_eq (congrArg (fun k_ : Nat => (⟨[(3, (.vsl 10 k_)), (4, (.int .i64 i2)), (11, (Q25 a_succ)), (12, (Q27 a_succ)), (13, (.int .i64 i2)), (18, (Q26 a_succ i2)), (19, (.int .i64 (Q28 a_succ i2))), (20, (.int .i64 i6))], [(10, .arr 1 22 k_ (rowF 1 eI64 (0 : Int) (Q29 l7 a_succ i2 i6) (Tag.fam 70010)))], [(70010, ⟨1, 3, famM (Q29 l7 a_succ i2 i6)⟩)]⟩ : St)) (show l7.length = (Q29 l7 a_succ i2 i6).length from (List.length_set ..).symm)))) ?_
          refine rg0 (⟨[(3, (.vsl 10 (Q29 l7 a_succ i2 i6).length)), (4, (.int .i64 i2)), (11, (Q25 a_succ)), (12, (Q27 a_succ)), (13, (.int .i64 i2)), (18, (Q26 a_succ i2)), (19, (.int .i64 (Q28 a_succ i2))), (20, (.int .i64 (w64 (i6 + (1 : Int)))))], [(10, .arr 1 22 ((Q29 l7 a_succ i2 i6).length) (rowF 1 eI64 (0 : Int) (Q29 l7 a_succ i2 i6) (Tag.fam 70010)))], [(70010, ⟨1, 3, famM (Q29 l7 a_succ i2 i6)⟩)]⟩ : St) hn mix (no_hand hΓ) (by kernel_rfl) ?_
          obtain rfl := Option.some.inj h
          exact ⟨rfl, Le.refl _ _⟩
        · replace h := cond_f hb h
          clear hb
          refine awp_exit ?_
          refine then_exit ?_
          obtain rfl := Option.some.inj h
          exact ⟨(by intro hh; cases hh), rfl, le_restrict_eq [3, 11, 12, 13] [10, 70010] (by kernel_rfl) (no_hand hΓ)⟩
      · clear hx14
        rintro e st' ⟨rfl, hl15⟩
        refine block_here ?_
        refine block_normal ?_
        refine then_normal ?_
        refine awp_le hl15 ?_
        refine rg0 (⟨[(3, (.vsl 10 x14.length)), (11, (Q25 a_succ)), (12, (Q27 a_succ)), (13, (.int .i64 (w64 (i2 + (1 : Int)))))], [(10, .arr 1 22 x14.length (rowF 1 eI64 (0 : Int) x14 (Tag.fam 70010)))], [(70010, ⟨1, 3, famM x14⟩)]⟩ : St) hn mix (no_hand hΓ) (by kernel_rfl) ?_
        obtain rfl := Option.some.inj h
        exact ⟨rfl, Le.refl _ _⟩
    · replace h := cond_f hb h
      clear hb
      refine awp_exit ?_
      refine then_exit ?_
      obtain rfl := Option.some.inj h
      exact ⟨(by intro hh; cases hh), rfl, le_restrict_eq [3] [10, 70010] (by kernel_rfl) (no_hand hΓ)⟩
  · clear hx16
    rintro e st' ⟨rfl, hl17⟩
    refine block_here ?_
    refine then_normal ?_
    refine awp_le hl17 ?_
    refine rgs0 (⟨[(2, (.vsl 10 x16.length))], [(10, .arr 1 22 x16.length (rowF 1 eI64 (0 : Int) x16 (Tag.fam 70010)))], [(70010, ⟨1, 3, famM x16⟩)]⟩ : St) hn mix (no_hand hΓ) (by kernel_rfl) ?_
    refine awp_le (Le.trans (le_freeze (nm := 10) (sz := 1) (n := x16.length) (e := 22) (f := (rowF 1 eI64 (0 : Int) x16 (Tag.fam 70010))) (g := (fun i => eLI64 (x16.getD i []))) rfl ⟨rfl, trivial⟩ (fun _ _ => rfl) (by rw [hΓ]; rfl)) (le_restrict_eq (st' := (⟨[(2, (AV.list 1 eLI64 [] x16 (.own 10)))], [(10, .tok 1 22 x16.length)], []⟩ : St)) [2] [10] (by kernel_rfl) (no_hand hΓ))) ?_
    refine awp_ret ?_
    obtain rfl := Option.some.inj h
    exact ⟨.inl rfl, [(10, 20000)], by kernel_rfl⟩

noncomputable def Q32 : AV := (.slice 0 0 (fun _ => []) .exact)
noncomputable def Q31 : AV := (AV.list 1 eLI64 [] ([] : List (List (Int))) .exact)
noncomputable def m_graph_Make (a_succ : List (List (Int))) : Option (TGraph × Int) :=
  ((m_graph_succMay a_succ).bind fun x1 => (bif (!x1) then (some ((⟨([] : List (List (Int))), ([] : List (List (Int)))⟩ : TGraph), (5 : Int))) else ((m_graph_copied a_succ).bind fun x2 => ((m_graph_comers a_succ).bind fun x3 => (some ((⟨x2, x3⟩ : TGraph), (0 : Int)))))))
theorem ok_graph_Make (a_succ : List (List (Int))) (r : (TGraph × Int)) (h : m_graph_Make a_succ = some r) : Spec Try.prog 16 [(AV.list 1 eLI64 [] a_succ .none)] [] (.tuple [(.agg (eTGraph r.1)), (.int .i64 r.2)]) [] := by
  refine spec_of_awp (fn := Try.f16) Try.func16 rfl rfl (by kernel_rfl) (fun Γ hn hΓ => ?_)
  have hn : Γ.n = 13 := hn
  unfold m_graph_Make at h
  refine rgs0 (⟨[(0, (AV.list 1 eLI64 [] a_succ .none)), (2, (.ptr 2 0))], [(2, .row 30 [Q32, Q32])], []⟩ : St) hn mix (no_hand hΓ) (by kernel_rfl) ?_
  refine awp_seq ?_
  obtain ⟨x1, hx1, h⟩ := bind_some h
  refine rgs [⟨[], [], (.bool x1), []⟩] [] (⟨[(0, (AV.list 1 eLI64 [] a_succ .none)), (2, (.ptr 2 0)), (6, (.bool (!x1)))], [(2, .row 30 [Q32, Q32])], []⟩ : St) [(Spec Try.prog 29 [(AV.list 1 eLI64 [] a_succ .none)] [] (.bool x1) [])] hn mix (no_hand hΓ) (by kernel_rfl) ⟨(ok_graph_succMay a_succ x1 hx1), trivial⟩ ?_
  refine awp_cond (!x1) (by kernel_rfl) (fun hb => ?_) (fun hb => ?_)
  · replace h := cond_t hb h
    clear hb
    refine rgs [] [(7, (.agg [Q31, Q31]))] (⟨[(2, (.ptr 2 0)), (3, (.int .i64 (5 : Int)))], [(2, .row 30 [Q31, Q31])], []⟩ : St) [(AVle (.agg [Q32, Q32]) (.agg [Q31, Q31]))] hn mix (no_hand hΓ) (by kernel_rfl) ⟨(AVle.agg (.cons av_nil (.cons av_nil .nil))), trivial⟩ ?_
    refine awp_le (st' := (⟨[(2, (.ptr 2 0)), (3, (.int .i64 (5 : Int)))], [(2, .row 30 [(AV.list 1 eLI64 [] ([] : List (List (Int))) .none), (AV.list 1 eLI64 [] ([] : List (List (Int))) .none)])], []⟩ : St)) (Le.trans (le_restrict_eq (st' := (⟨[(2, (.ptr 2 0)), (3, (.int .i64 (5 : Int)))], [(2, .row 30 [Q31, Q31])], []⟩ : St)) [2, 3] [2] (by kernel_rfl) (no_hand hΓ)) (le_of (.cons (AVle.refl _) (.cons (AVle.refl _) .nil)) (.row (.cons AVle.untag (.cons AVle.untag .nil)) .nil))) ?_
    refine awp_ret ?_
    refine then_ret ?_
    obtain rfl := Option.some.inj h
    exact ⟨.inl rfl, [], by kernel_rfl⟩
  · replace h := cond_f hb h
    clear hb
    refine awp_skip ?_
    refine then_normal ?_
    obtain ⟨x2, hx2, h⟩ := bind_some h
    obtain ⟨x3, hx3, h⟩ := bind_some h
    refine rgs [⟨[], [(20000, 9)], (AV.list 1 eLI64 [] x2 (.own 20000)), [(20000, .tok 1 22 x2.length)]⟩, ⟨[], [(20000, 11)], (AV.list 1 eLI64 [] x3 (.own 20000)), [(20000, .tok 1 22 x3.length)]⟩] [] (⟨[(2, (.ptr 2 0)), (3, (.int .i64 (0 : Int)))], [(2, .row 30 [(AV.list 1 eLI64 [] x2 (.own 9)), (AV.list 1 eLI64 [] x3 (.own 11))]), (9, .tok 1 22 x2.length), (11, .tok 1 22 x3.length)], []⟩ : St) [(Spec Try.prog 32 [(AV.list 1 eLI64 [] a_succ .none)] [] (AV.list 1 eLI64 [] x2 (.own 20000)) [(20000, .tok 1 22 x2.length)]), (Spec Try.prog 28 [(AV.list 1 eLI64 [] a_succ .none)] [] (AV.list 1 eLI64 [] x3 (.own 20000)) [(20000, .tok 1 22 x3.length)])] hn mix (no_hand hΓ) (by kernel_rfl) ⟨(ok_graph_copied a_succ x2 hx2), (ok_graph_comers a_succ x3 hx3), trivial⟩ ?_
    refine awp_ret ?_
    obtain rfl := Option.some.inj h
    exact ⟨.inl rfl, [], by kernel_rfl⟩

noncomputable def m_slices_Equal_int_int_L1 (a_s1 : List (Int)) (a_s2 : List (Int)) : Int → Option (LR Int (Unit ⊕ Bool)) :=
  fun (i1 : Int) => (bif (decide ((i1 : Int) < (a_s1.length : Int))) then (chk (InB i1 a_s1.length) (chk (InB i1 a_s2.length) (bif (((a_s1.getD (i1).toNat (0 : Int)) : Int) != (a_s2.getD (i1).toNat (0 : Int))) then (some (.done (.inr false))) else (some (.next (w64 (i1 + (1 : Int)))))))) else (some (.done (.inl ()))))
noncomputable def Q35 (a_s1 : List (Int)) : AV := (.int .i64 (a_s1.length : Int))
noncomputable def Q33 (a_s1 : List (Int)) : AV := (AV.list 1 eI64 (0 : Int) a_s1 .none)
noncomputable def Q34 (a_s2 : List (Int)) : AV := (AV.list 1 eI64 (0 : Int) a_s2 .none)
noncomputable def m_slices_Equal_int_int (a_s1 : List (Int)) (a_s2 : List (Int)) : Option Bool :=
  (bif (((a_s1.length : Int) : Int) != (a_s2.length : Int)) then (some false) else ((loopO (S := Int) (X := (Unit ⊕ Bool)) (m_slices_Equal_int_int_L1 a_s1 a_s2) (0 : Int)).bind (fun x4 => (match x4 with | (.inl _) => (some true) | (.inr r6) => (some r6)))))
theorem ok_slices_Equal_int_int (a_s1 : List (Int)) (a_s2 : List (Int)) (r : Bool) (h : m_slices_Equal_int_int a_s1 a_s2 = some r) : Spec Try.prog 31 [(AV.list 1 eI64 (0 : Int) a_s1 .none), (AV.list 1 eI64 (0 : Int) a_s2 .none)] [] (.bool r) [] := by
  refine spec_of_awp (fn := Try.f31) Try.func31 rfl rfl (by kernel_rfl) (fun Γ hn hΓ => ?_)
  have hn : Γ.n = 26 := hn
  unfold m_slices_Equal_int_int at h
  refine rgs0 (⟨[(0, (Q33 a_s1)), (1, (Q34 a_s2))], [], []⟩ : St) hn mix (no_hand hΓ) (by kernel_rfl) ?_
  refine awp_seq ?_
  refine rgs0 (⟨[(0, (Q33 a_s1)), (1, (Q34 a_s2)), (10, (.bool (((a_s1.length : Int) : Int) != (a_s2.length : Int))))], [], []⟩ : St) hn mix (no_hand hΓ) (by kernel_rfl) ?_
  refine awp_cond (((a_s1.length : Int) : Int) != (a_s2.length : Int)) (by kernel_rfl) (fun hb => ?_) (fun hb => ?_)
  · replace h := cond_t hb h
    clear hb
    refine rgs0 (⟨[(4, (.bool false))], [], []⟩ : St) hn mix (no_hand hΓ) (by kernel_rfl) ?_
    refine awp_ret ?_
    refine then_ret ?_
    obtain rfl := Option.some.inj h
    exact ⟨.inl rfl, [], by kernel_rfl⟩
  · replace h := cond_f hb h
    clear hb
    refine awp_skip ?_
    refine then_normal ?_
    refine awp_seq ?_
    refine rgs0 (⟨[(0, (Q33 a_s1)), (1, (Q34 a_s2)), (12, (Q35 a_s1)), (13, (.int .i64 (0 : Int)))], [], []⟩ : St) hn mix (no_hand hΓ) (by kernel_rfl) ?_
    refine awp_block ?_
    refine awp_le (st' := (fun (i1 : Int) => (⟨[(0, (Q33 a_s1)), (1, (Q34 a_s2)), (12, (Q35 a_s1)), (13, (.int .i64 i1))], [], []⟩ : St)) (0 : Int)) (Le.refl _ _) ?_
    obtain ⟨x4, hx4, h⟩ := bind_some h
    refine awp_loop (fun (i1 : Int) => (⟨[(0, (Q33 a_s1)), (1, (Q34 a_s2)), (12, (Q35 a_s1)), (13, (.int .i64 i1))], [], []⟩ : St)) _ (fun (x_ : (Unit ⊕ Bool)) (e : Exit) (st : St) => match x_ with | (.inl _) => e = (.exit 0) ∧ Le Γ st (⟨[], [], []⟩ : St) | (.inr r_) => e = .ret ∧ retK Try.prog Try.f31.results.toList [] (.bool r_) [] e st) ?_ hx4 ?_
    · intro i1 y h
      unfold m_slices_Equal_int_int_L1 at h
      refine rgs0 (⟨[(0, (Q33 a_s1)), (1, (Q34 a_s2)), (12, (Q35 a_s1)), (13, (.int .i64 i1)), (14, (.bool (decide ((i1 : Int) < (a_s1.length : Int)))))], [], []⟩ : St) hn mix (no_hand hΓ) (by kernel_rfl) ?_
      refine awp_seq ?_
      refine awp_cond (decide ((i1 : Int) < (a_s1.length : Int))) (by kernel_rfl) (fun hb => ?_) (fun hb => ?_)
      · replace h := cond_t hb h
        clear hb
        refine awp_skip ?_
        refine then_normal ?_
        refine awp_seq ?_
        refine awp_block ?_
        refine rgs0 (⟨[(0, (Q33 a_s1)), (1, (Q34 a_s2)), (5, (.int .i64 i1)), (12, (Q35 a_s1)), (13, (.int .i64 i1))], [], []⟩ : St) hn mix (no_hand hΓ) (by kernel_rfl) ?_
        obtain ⟨hc2, h⟩ := chk_some h
        obtain ⟨hc3, h⟩ := chk_some h
        refine rgs [] [] (⟨[(0, (Q33 a_s1)), (1, (Q34 a_s2)), (12, (Q35 a_s1)), (13, (.int .i64 i1)), (24, (.bool (((a_s1.getD (i1).toNat (0 : Int)) : Int) != (a_s2.getD (i1).toNat (0 : Int)))))], [], []⟩ : St) [(InB i1 a_s1.length), (InB i1 a_s2.length)] hn mix (no_hand hΓ) (by kernel_rfl) ⟨hc2, hc3, trivial⟩ ?_
        refine awp_cond (((a_s1.getD (i1).toNat (0 : Int)) : Int) != (a_s2.getD (i1).toNat (0 : Int))) (by kernel_rfl) (fun hb => ?_) (fun hb => ?_)
        · replace h := cond_t hb h
          clear hb
          refine rgs0 (⟨[(4, (.bool false))], [], []⟩ : St) hn mix (no_hand hΓ) (by kernel_rfl) ?_
          refine awp_ret ?_
          refine block_ret ?_
          refine then_ret ?_
          obtain rfl := Option.some.inj h
          exact ⟨(by intro hh; cases hh), rfl, ⟨.inl rfl, [], by kernel_rfl⟩⟩
        · replace h := cond_f hb h
          clear hb
          refine awp_skip ?_
          refine block_normal ?_
          refine then_normal ?_
          refine rg0 (⟨[(0, (Q33 a_s1)), (1, (Q34 a_s2)), (12, (Q35 a_s1)), (13, (.int .i64 (w64 (i1 + (1 : Int)))))], [], []⟩ : St) hn mix (no_hand hΓ) (by kernel_rfl) ?_
          obtain rfl := Option.some.inj h
          exact ⟨rfl, Le.refl _ _⟩
      · replace h := cond_f hb h
        clear hb
        refine awp_exit ?_
        refine then_exit ?_
        obtain rfl := Option.some.inj h
        exact ⟨(by intro hh; cases hh), rfl, le_restrict_eq [] [] (by kernel_rfl) (no_hand hΓ)⟩
    · clear hx4
      rcases x4 with _ | r6
      · rintro e st' ⟨rfl, hl5⟩
        refine block_here ?_
        refine then_normal ?_
        refine awp_le hl5 ?_
        refine rgs0 (⟨[(4, (.bool true))], [], []⟩ : St) hn mix (no_hand hΓ) (by kernel_rfl) ?_
        refine awp_ret ?_
        obtain rfl := Option.some.inj h
        exact ⟨.inl rfl, [], by kernel_rfl⟩
      · rintro e st' ⟨rfl, hk⟩
        refine block_ret ?_
        refine then_ret ?_
        obtain rfl := Option.some.inj h
        exact hk

noncomputable def m_slices_EqualFunc_int_int_int_int_L1 (a_s1 : List (List (Int))) (a_s2 : List (List (Int))) : Int → Option (LR Int (Unit ⊕ Bool)) :=
  fun (i1 : Int) => (bif (decide ((i1 : Int) < (a_s1.length : Int))) then (chk (InB i1 a_s1.length) (chk (InB i1 a_s2.length) ((m_slices_Equal_int_int (a_s1.getD (i1).toNat []) (a_s2.getD (i1).toNat [])).bind fun x4 => (bif (!x4) then (some (.done (.inr false))) else (some (.next (w64 (i1 + (1 : Int))))))))) else (some (.done (.inl ()))))
noncomputable def Q36 (a_s1 : List (List (Int))) : AV := (AV.list 1 eLI64 [] a_s1 .none)
noncomputable def Q37 (a_s2 : List (List (Int))) : AV := (AV.list 1 eLI64 [] a_s2 .none)
noncomputable def Q38 (a_s1 : List (List (Int))) : AV := (.int .i64 (a_s1.length : Int))
noncomputable def m_slices_EqualFunc_int_int_int_int (a_s1 : List (List (Int))) (a_s2 : List (List (Int))) : Option Bool :=
  (bif (((a_s1.length : Int) : Int) != (a_s2.length : Int)) then (some false) else ((loopO (S := Int) (X := (Unit ⊕ Bool)) (m_slices_EqualFunc_int_int_int_int_L1 a_s1 a_s2) (0 : Int)).bind (fun x5 => (match x5 with | (.inl _) => (some true) | (.inr r7) => (some r7)))))
theorem ok_slices_EqualFunc_int_int_int_int (a_s1 : List (List (Int))) (a_s2 : List (List (Int))) (r : Bool) (h : m_slices_EqualFunc_int_int_int_int a_s1 a_s2 = some r) : Spec Try.prog 30 [(AV.list 1 eLI64 [] a_s1 .none), (AV.list 1 eLI64 [] a_s2 .none), (.clo 31 [] [])] [] (.bool r) [] := by
  refine spec_of_awp (fn := Try.f30) Try.func30 rfl rfl (by kernel_rfl) (fun Γ hn hΓ => ?_)
  have hn : Γ.n = 32 := hn
  unfold m_slices_EqualFunc_int_int_int_int at h
  refine rgs0 (⟨[(0, (Q36 a_s1)), (1, (Q37 a_s2)), (2, (.clo 31 [] []))], [], []⟩ : St) hn mix (no_hand hΓ) (by kernel_rfl) ?_
  refine awp_seq ?_
  refine rgs0 (⟨[(0, (Q36 a_s1)), (1, (Q37 a_s2)), (2, (.clo 31 [] [])), (14, (.bool (((a_s1.length : Int) : Int) != (a_s2.length : Int))))], [], []⟩ : St) hn mix (no_hand hΓ) (by kernel_rfl) ?_
  refine awp_cond (((a_s1.length : Int) : Int) != (a_s2.length : Int)) (by kernel_rfl) (fun hb => ?_) (fun hb => ?_)
  · replace h := cond_t hb h
    clear hb
    refine rgs0 (⟨[(6, (.bool false))], [], []⟩ : St) hn mix (no_hand hΓ) (by kernel_rfl) ?_
    refine awp_ret ?_
    refine then_ret ?_
    obtain rfl := Option.some.inj h
    exact ⟨.inl rfl, [], by kernel_rfl⟩
  · replace h := cond_f hb h
    clear hb
    refine awp_skip ?_
    refine then_normal ?_
    refine awp_seq ?_
    refine rgs0 (⟨[(1, (Q37 a_s2)), (2, (.clo 31 [] [])), (15, (Q36 a_s1)), (16, (Q38 a_s1)), (17, (.int .i64 (0 : Int)))], [], []⟩ : St) hn mix (no_hand hΓ) (by kernel_rfl) ?_
    refine awp_block ?_
    refine awp_le (st' := (fun (i1 : Int) => (⟨[(1, (Q37 a_s2)), (2, (.clo 31 [] [])), (15, (Q36 a_s1)), (16, (Q38 a_s1)), (17, (.int .i64 i1))], [], []⟩ : St)) (0 : Int)) (Le.refl _ _) ?_
    obtain ⟨x5, hx5, h⟩ := bind_some h
    refine awp_loop (fun (i1 : Int) => (⟨[(1, (Q37 a_s2)), (2, (.clo 31 [] [])), (15, (Q36 a_s1)), (16, (Q38 a_s1)), (17, (.int .i64 i1))], [], []⟩ : St)) _ (fun (x_ : (Unit ⊕ Bool)) (e : Exit) (st : St) => match x_ with | (.inl _) => e = (.exit 0) ∧ Le Γ st (⟨[], [], []⟩ : St) | (.inr r_) => e = .ret ∧ retK Try.prog Try.f30.results.toList [] (.bool r_) [] e st) ?_ hx5 ?_
    · intro i1 y h
      unfold m_slices_EqualFunc_int_int_int_int_L1 at h
      refine rgs0 (⟨[(1, (Q37 a_s2)), (2, (.clo 31 [] [])), (15, (Q36 a_s1)), (16, (Q38 a_s1)), (17, (.int .i64 i1)), (18, (.bool (decide ((i1 : Int) < (a_s1.length : Int)))))], [], []⟩ : St) hn mix (no_hand hΓ) (by kernel_rfl) ?_
      refine awp_seq ?_
      refine awp_cond (decide ((i1 : Int) < (a_s1.length : Int))) (by kernel_rfl) (fun hb => ?_) (fun hb => ?_)
      · replace h := cond_t hb h
        clear hb
        refine awp_skip ?_
        refine then_normal ?_
        refine awp_seq ?_
        refine awp_block ?_
        obtain ⟨hc2, h⟩ := chk_some h
        refine rgs [] [] (⟨[(1, (Q37 a_s2)), (2, (.clo 31 [] [])), (7, (.int .i64 i1)), (8, (AV.list 1 eI64 (0 : Int) (a_s1.getD (i1).toNat []) .none)), (15, (Q36 a_s1)), (16, (Q38 a_s1)), (17, (.int .i64 i1))], [], []⟩ : St) [(InB i1 a_s1.length)] hn mix (no_hand hΓ) (by kernel_rfl) ⟨hc2, trivial⟩ ?_
        obtain ⟨hc3, h⟩ := chk_some h
        refine rgs [] [] (⟨[(1, (Q37 a_s2)), (2, (.clo 31 [] [])), (8, (AV.list 1 eI64 (0 : Int) (a_s1.getD (i1).toNat []) .none)), (9, (AV.list 1 eI64 (0 : Int) (a_s2.getD (i1).toNat []) .none)), (15, (Q36 a_s1)), (16, (Q38 a_s1)), (17, (.int .i64 i1))], [], []⟩ : St) [(InB i1 a_s2.length)] hn mix (no_hand hΓ) (by kernel_rfl) ⟨hc3, trivial⟩ ?_
        obtain ⟨x4, hx4, h⟩ := bind_some h
        refine rgs [⟨[], [], (.bool x4), []⟩] [] (⟨[(1, (Q37 a_s2)), (2, (.clo 31 [] [])), (15, (Q36 a_s1)), (16, (Q38 a_s1)), (17, (.int .i64 i1)), (30, (.bool (!x4)))], [], []⟩ : St) [(Spec Try.prog 31 [(AV.list 1 eI64 (0 : Int) (a_s1.getD (i1).toNat []) .none), (AV.list 1 eI64 (0 : Int) (a_s2.getD (i1).toNat []) .none)] [] (.bool x4) [])] hn mix (no_hand hΓ) (by kernel_rfl) ⟨(ok_slices_Equal_int_int (a_s1.getD (i1).toNat []) (a_s2.getD (i1).toNat []) x4 hx4), trivial⟩ ?_
        refine awp_cond (!x4) (by kernel_rfl) (fun hb => ?_) (fun hb => ?_)
        · replace h := cond_t hb h
          clear hb
          refine rgs0 (⟨[(6, (.bool false))], [], []⟩ : St) hn mix (no_hand hΓ) (by kernel_rfl) ?_
          refine awp_ret ?_
          refine block_ret ?_
          refine then_ret ?_
          obtain rfl := Option.some.inj h
          exact ⟨(by intro hh; cases hh), rfl, ⟨.inl rfl, [], by kernel_rfl⟩⟩
        · replace h := cond_f hb h
          clear hb
          refine awp_skip ?_
          refine block_normal ?_
          refine then_normal ?_
          refine rg0 (⟨[(1, (Q37 a_s2)), (2, (.clo 31 [] [])), (15, (Q36 a_s1)), (16, (Q38 a_s1)), (17, (.int .i64 (w64 (i1 + (1 : Int)))))], [], []⟩ : St) hn mix (no_hand hΓ) (by kernel_rfl) ?_
          obtain rfl := Option.some.inj h
          exact ⟨rfl, Le.refl _ _⟩
      · replace h := cond_f hb h
        clear hb
        refine awp_exit ?_
        refine then_exit ?_
        obtain rfl := Option.some.inj h
        exact ⟨(by intro hh; cases hh), rfl, le_restrict_eq [] [] (by kernel_rfl) (no_hand hΓ)⟩
    · clear hx5
      rcases x5 with _ | r7
      · rintro e st' ⟨rfl, hl6⟩
        refine block_here ?_
        refine then_normal ?_
        refine awp_le hl6 ?_
        refine rgs0 (⟨[(6, (.bool true))], [], []⟩ : St) hn mix (no_hand hΓ) (by kernel_rfl) ?_
        refine awp_ret ?_
        obtain rfl := Option.some.inj h
        exact ⟨.inl rfl, [], by kernel_rfl⟩
      · rintro e st' ⟨rfl, hk⟩
        refine block_ret ?_
        refine then_ret ?_
        obtain rfl := Option.some.inj h
        exact hk

noncomputable def m_graph_May (a_g : TGraph) : Option Bool :=
  ((m_graph_succMay a_g.Succ).bind fun x1 => ((bif (x1 == true) then m_graph_comers a_g.Succ else some []).bind fun x2 => ((bif (x1 == true) then m_slices_EqualFunc_int_int_int_int a_g.Pred x2 else some false).bind fun x3 => (some (bif x1 then x3 else false)))))
theorem ok_graph_May (a_g : TGraph) (r : Bool) (h : m_graph_May a_g = some r) : Spec Try.prog 14 [(.agg (eTGraph a_g))] [] (.bool r) [] := by
  refine spec_of_awp (fn := Try.f14) Try.func14 rfl rfl (by kernel_rfl) (fun Γ hn hΓ => ?_)
  have hn : Γ.n = 14 := hn
  unfold m_graph_May at h
  refine rgs0 (⟨[(1, (.ptr 1 0))], [(1, .row 30 [(AV.list 1 eLI64 [] a_g.Succ .none), (AV.list 1 eLI64 [] a_g.Pred .none)])], []⟩ : St) hn mix (no_hand hΓ) (by kernel_rfl) ?_
  obtain ⟨x1, hx1, h⟩ := bind_some h
  obtain ⟨x2, hx2, h⟩ := bind_some h
  obtain ⟨x3, hx3, h⟩ := bind_some h
  refine rgs [⟨[], [], (.bool x1), []⟩, ⟨[], [], (AV.list 1 eLI64 [] x2 .none), []⟩, ⟨[], [], (.bool x3), []⟩] [] (⟨[(2, (.bool (bif x1 then x3 else false)))], [], []⟩ : St) [(Spec Try.prog 29 [(AV.list 1 eLI64 [] a_g.Succ .none)] [] (.bool x1) []), ((x1 == true) = true → (x1 == true) = true), ((x1 == true) = true → (x1 == true) = true), ((x1 == true) = true → (x1 == true) = true), ((x1 == true) = true → (Spec Try.prog 28 [(AV.list 1 eLI64 [] a_g.Succ .none)] [] (AV.list 1 eLI64 [] x2 .none) [])), ((x1 == true) = true → (x1 == true) = true), ((x1 == true) = true → (x1 == true) = true), ((x1 == true) = true → (Spec Try.prog 30 [(AV.list 1 eLI64 [] a_g.Pred .none), (AV.list 1 eLI64 [] x2 .none), (.clo 31 [] [])] [] (.bool x3) [])), (x1 = true → (x1 == true) = true)] hn mix (no_hand hΓ) (by kernel_rfl) ⟨(ok_graph_succMay a_g.Succ x1 hx1), (fun hg => hg), (fun hg => hg), (fun hg => hg), (fun hg => (Spec.drop (ok_graph_comers a_g.Succ x2 (cond_t hg hx2)))), (fun hg => hg), (fun hg => hg), (fun hg => (ok_slices_EqualFunc_int_int_int_int a_g.Pred x2 x3 (cond_t hg hx3))), gT, trivial⟩ ?_
  refine awp_ret ?_
  obtain rfl := Option.some.inj h
  exact ⟨.inl rfl, [], by kernel_rfl⟩

noncomputable def m_slices_Reverse_int_int_L1  : (Int × Int × List (Int)) → Option (LR (Int × Int × List (Int)) (List (Int))) :=
  fun ((i1, i2, l3) : (Int × Int × List (Int))) => (bif (decide ((i1 : Int) < i2)) then (chk (InB i2 l3.length) (chk (InB i1 l3.length) (chk (InB i1 l3.length) (chk (InB i2 l3.length) (some (.next ((w64 (i1 + (1 : Int))), (w64 (i2 - (1 : Int))), ((l3.set (i1).toNat (l3.getD (i2).toNat (0 : Int))).set (i2).toNat (l3.getD (i1).toNat (0 : Int)))))))))) else (some (.done l3)))
noncomputable def Q41 (l3 : List (Int)) : List (Nat × Own) := [(34000, .arr 1 3 l3.length (fun i => eI64 (l3.getD i (0 : Int))))]
noncomputable def Q40 (l3 : List (Int)) (i1 : Int) (i2 : Int) : List (Nat × AV) := [(0, (.vsl 34000 l3.length)), (2, (.int .i64 i1)), (3, (.int .i64 i2))]
noncomputable def Q39 (l3 : List (Int)) (i1 : Int) (i2 : Int) := ((l3.set (i1).toNat (l3.getD (i2).toNat (0 : Int))).set (i2).toNat (l3.getD (i1).toNat (0 : Int)))
noncomputable def m_slices_Reverse_int_int (a_s : List (Int)) : Option (List (Int)) :=
  ((loopO (S := (Int × Int × List (Int))) (X := List (Int)) m_slices_Reverse_int_int_L1 ((0 : Int), (w64 ((a_s.length : Int) - (1 : Int))), a_s)).bind (fun x9 => ((some x9))))
theorem ok_slices_Reverse_int_int (a_s : List (Int)) (r : List (Int)) (h : m_slices_Reverse_int_int a_s = some r) : Spec Try.prog 34 [(.vsl 34000 a_s.length)] [(34000, .arr 1 3 a_s.length (fun i => eI64 (a_s.getD i (0 : Int))))] (.tuple []) [(34000, .arr 1 3 r.length (fun i => eI64 (r.getD i (0 : Int))))] := by
  refine spec_of_awp (fn := Try.f34) Try.func34 rfl rfl (by kernel_rfl) (fun Γ hn hΓ => ?_)
  have hn : Γ.n = 28 := hn
  unfold m_slices_Reverse_int_int at h
  refine awp_cl ?_
  refine rgs0 (⟨[(0, (.vsl 34000 a_s.length)), (2, (.int .i64 (0 : Int))), (3, (.int .i64 (w64 ((a_s.length : Int) - (1 : Int)))))], [(34000, .arr 1 3 a_s.length (fun i => eI64 (a_s.getD i (0 : Int))))], []⟩ : St) hn mix (hand_in hΓ rfl) (by kernel_rfl) ?_
  refine awp_block ?_
  refine awp_le (st' := (fun ((i1, i2, l3) : (Int × Int × List (Int))) => (⟨(Q40 l3 i1 i2), (Q41 l3), []⟩ : St)) ((0 : Int), (w64 ((a_s.length : Int) - (1 : Int))), a_s)) (Le.refl _ _) ?_
  obtain ⟨x9, hx9, h⟩ := bind_some h
  refine awp_loop (fun ((i1, i2, l3) : (Int × Int × List (Int))) => (⟨(Q40 l3 i1 i2), (Q41 l3), []⟩ : St)) _ (fun (l4 : List (Int)) (e : Exit) (st : St) => e = (.exit 0) ∧ Le Γ st (⟨[], [(34000, .arr 1 3 l4.length (fun i => eI64 (l4.getD i (0 : Int))))], []⟩ : St)) ?_ hx9 ?_
  · rintro ⟨i1, i2, l3⟩ y h
    unfold m_slices_Reverse_int_int_L1 at h
    refine awp_seq ?_
    refine rgs0 (⟨[(0, (.vsl 34000 l3.length)), (2, (.int .i64 i1)), (3, (.int .i64 i2)), (9, (.bool (decide ((i1 : Int) < i2))))], (Q41 l3), []⟩ : St) hn mix (hand_in hΓ rfl) (by kernel_rfl) ?_
    refine awp_cond (decide ((i1 : Int) < i2)) (by kernel_rfl) (fun hb => ?_) (fun hb => ?_)
    · replace h := cond_t hb h
      clear hb
      refine awp_skip ?_
      refine then_normal ?_
      refine awp_seq ?_
      refine awp_block ?_
      obtain ⟨hc5, h⟩ := chk_some h
      obtain ⟨hc6, h⟩ := chk_some h
      obtain ⟨hc7, h⟩ := chk_some h
      obtain ⟨hc8, h⟩ := chk_some h
      refine rg [] [] (⟨(Q40 l3 i1 i2), [(34000, .arr 1 3 l3.length (fun i_ => AV.eraseAll (fun n_ => memB n_ [34000]) ((putF (putF (fun i => eI64 (l3.getD i (0 : Int))) (i1).toNat 0 [(.int .i64 (l3.getD (i2).toNat (0 : Int)))]) (i2).toNat 0 [(.int .i64 (l3.getD (i1).toNat (0 : Int)))]) i_)))], []⟩ : St) [(InB i2 l3.length), (l3.length = l3.length), (InB i1 l3.length), (l3.length = l3.length), (InB i1 l3.length), (l3.length = l3.length), (InB i2 l3.length), (l3.length = l3.length)] hn mix (hand_in hΓ rfl) (by kernel_rfl) ⟨hc5, rfl, hc6, rfl, hc7, rfl, hc8, rfl, trivial⟩ ?_
      refine block_normal ?_
      refine then_normal ?_
      refine awp_le (Le.trans (le_of (st' := (⟨(Q40 l3 i1 i2), [(34000, .arr 1 3 l3.length (fun i => eI64 ((Q39 l3 i1 i2).getD i (0 : Int))))], []⟩ : St)) (TmpsLe.refl _) (.arr (leL_of_eq (Eq.trans (List.length_set ..).symm (List.length_set ..).symm) (fun k_ hk_ => (congrArg (AV.eraseAll (fun n_ => memB n_ [34000])) ((putF_set (putF_set (fun _ _ => rfl) (inB_lt0 hc7) rfl) (inB_lt1 hc8) rfl) k_ hk_)).trans rfl)) .nil)) (le_eq (congrArg (fun k_ : Nat => (⟨[(0, (.vsl 34000 k_)), (2, (.int .i64 i1)), (3, (.int .i64 i2))], [(34000, .arr 1 3 k_ (fun i => eI64 ((Q39 l3 i1 i2).getD i (0 : Int))))], []⟩ : St)) (show l3.length = (Q39 l3 i1 i2).length from (Eq.trans (List.length_set ..).symm (List.length_set ..).symm))))) ?_
      refine rg0 (⟨[(0, (.vsl 34000 (Q39 l3 i1 i2).length)), (2, (.int .i64 (w64 (i1 + (1 : Int))))), (3, (.int .i64 (w64 (i2 - (1 : Int)))))], [(34000, .arr 1 3 ((Q39 l3 i1 i2).length) (fun i => eI64 ((Q39 l3 i1 i2).getD i (0 : Int))))], []⟩ : St) hn mix (hand_in hΓ rfl) (by kernel_rfl) ?_
      obtain rfl := Option.some.inj h
      exact ⟨rfl, Le.refl _ _⟩
    · replace h := cond_f hb h
      clear hb
      refine awp_exit ?_
      refine then_exit ?_
      obtain rfl := Option.some.inj h
      exact ⟨(by intro hh; cases hh), rfl, le_restrict_eq [] [34000] (by kernel_rfl) (hand_in hΓ rfl)⟩
  · clear hx9
    rintro e st' ⟨rfl, hl10⟩
    refine block_here ?_
    obtain rfl := Option.some.inj h
    exact cl_of (hl10) ⟨.inr rfl, [(34000, 34000)], by kernel_rfl⟩

noncomputable def m_graph_Order_L1 (a_g : TGraph) (a_p1 : Int) : List (Int) → Option (LR (List (Int)) (List (Int) ⊕ (List (Bool) × List (Int) × List (Int)))) :=
  fun (l9 : List (Int)) => (chk (InB ([a_p1].getD ((w64 (([a_p1].length : Int) - (1 : Int)))).toNat (0 : Int)) 64) (chk (InB ([a_p1].getD ((w64 (([a_p1].length : Int) - (1 : Int)))).toNat (0 : Int)) a_g.Succ.length) (bif (decide (((l9.getD (([a_p1].getD ((w64 (([a_p1].length : Int) - (1 : Int)))).toNat (0 : Int))).toNat (0 : Int)) : Int) < ((a_g.Succ.getD (([a_p1].getD ((w64 (([a_p1].length : Int) - (1 : Int)))).toNat (0 : Int))).toNat []).length : Int))) then (chk (InB ([a_p1].getD ((w64 (([a_p1].length : Int) - (1 : Int)))).toNat (0 : Int)) a_g.Succ.length) (chk (InB ([a_p1].getD ((w64 (([a_p1].length : Int) - (1 : Int)))).toNat (0 : Int)) 64) (chk (InB (l9.getD (([a_p1].getD ((w64 (([a_p1].length : Int) - (1 : Int)))).toNat (0 : Int))).toNat (0 : Int)) (a_g.Succ.getD (([a_p1].getD ((w64 (([a_p1].length : Int) - (1 : Int)))).toNat (0 : Int))).toNat []).length) (chk (InB ([a_p1].getD ((w64 (([a_p1].length : Int) - (1 : Int)))).toNat (0 : Int)) 64) (chk (InB ([a_p1].getD ((w64 (([a_p1].length : Int) - (1 : Int)))).toNat (0 : Int)) 64) (chk (InB ((a_g.Succ.getD (([a_p1].getD ((w64 (([a_p1].length : Int) - (1 : Int)))).toNat (0 : Int))).toNat []).getD ((l9.getD (([a_p1].getD ((w64 (([a_p1].length : Int) - (1 : Int)))).toNat (0 : Int))).toNat (0 : Int))).toNat (0 : Int)) 64) (bif (!((setN 64 false (List.replicate 64 false) (a_p1).toNat true).getD (((a_g.Succ.getD (([a_p1].getD ((w64 (([a_p1].length : Int) - (1 : Int)))).toNat (0 : Int))).toNat []).getD ((l9.getD (([a_p1].getD ((w64 (([a_p1].length : Int) - (1 : Int)))).toNat (0 : Int))).toNat (0 : Int))).toNat (0 : Int))).toNat false)) then (chk (InB ((a_g.Succ.getD (([a_p1].getD ((w64 (([a_p1].length : Int) - (1 : Int)))).toNat (0 : Int))).toNat []).getD ((l9.getD (([a_p1].getD ((w64 (([a_p1].length : Int) - (1 : Int)))).toNat (0 : Int))).toNat (0 : Int))).toNat (0 : Int)) 64) (chk ([a_p1].length + ([((a_g.Succ.getD (([a_p1].getD ((w64 (([a_p1].length : Int) - (1 : Int)))).toNat (0 : Int))).toNat []).getD ((l9.getD (([a_p1].getD ((w64 (([a_p1].length : Int) - (1 : Int)))).toNat (0 : Int))).toNat (0 : Int))).toNat (0 : Int))] : List (Int)).length ≤ room) (some (.done (.inr ((setN 64 false (setN 64 false (List.replicate 64 false) (a_p1).toNat true) (((a_g.Succ.getD (([a_p1].getD ((w64 (([a_p1].length : Int) - (1 : Int)))).toNat (0 : Int))).toNat []).getD ((l9.getD (([a_p1].getD ((w64 (([a_p1].length : Int) - (1 : Int)))).toNat (0 : Int))).toNat (0 : Int))).toNat (0 : Int))).toNat true), (setN 64 (0 : Int) l9 (([a_p1].getD ((w64 (([a_p1].length : Int) - (1 : Int)))).toNat (0 : Int))).toNat (w64 ((l9.getD (([a_p1].getD ((w64 (([a_p1].length : Int) - (1 : Int)))).toNat (0 : Int))).toNat (0 : Int)) + (1 : Int)))), ([a_p1] ++ ([((a_g.Succ.getD (([a_p1].getD ((w64 (([a_p1].length : Int) - (1 : Int)))).toNat (0 : Int))).toNat []).getD ((l9.getD (([a_p1].getD ((w64 (([a_p1].length : Int) - (1 : Int)))).toNat (0 : Int))).toNat (0 : Int))).toNat (0 : Int))] : List (Int))))))))) else (some (.next (setN 64 (0 : Int) l9 (([a_p1].getD ((w64 (([a_p1].length : Int) - (1 : Int)))).toNat (0 : Int))).toNat (w64 ((l9.getD (([a_p1].getD ((w64 (([a_p1].length : Int) - (1 : Int)))).toNat (0 : Int))).toNat (0 : Int)) + (1 : Int))))))))))))) else (some (.done (.inl l9))))))
noncomputable def m_graph_Order_L2 (a_g : TGraph) (l1 : List (Bool)) (l3 : List (Int)) : List (Int) → Option (LR (List (Int)) (List (Int) ⊕ (List (Bool) × List (Int) × List (Int)))) :=
  fun (l32 : List (Int)) => (chk (InB (l3.getD ((w64 ((l3.length : Int) - (1 : Int)))).toNat (0 : Int)) 64) (chk (InB (l3.getD ((w64 ((l3.length : Int) - (1 : Int)))).toNat (0 : Int)) a_g.Succ.length) (bif (decide (((l32.getD ((l3.getD ((w64 ((l3.length : Int) - (1 : Int)))).toNat (0 : Int))).toNat (0 : Int)) : Int) < ((a_g.Succ.getD ((l3.getD ((w64 ((l3.length : Int) - (1 : Int)))).toNat (0 : Int))).toNat []).length : Int))) then (chk (InB (l3.getD ((w64 ((l3.length : Int) - (1 : Int)))).toNat (0 : Int)) a_g.Succ.length) (chk (InB (l3.getD ((w64 ((l3.length : Int) - (1 : Int)))).toNat (0 : Int)) 64) (chk (InB (l32.getD ((l3.getD ((w64 ((l3.length : Int) - (1 : Int)))).toNat (0 : Int))).toNat (0 : Int)) (a_g.Succ.getD ((l3.getD ((w64 ((l3.length : Int) - (1 : Int)))).toNat (0 : Int))).toNat []).length) (chk (InB (l3.getD ((w64 ((l3.length : Int) - (1 : Int)))).toNat (0 : Int)) 64) (chk (InB (l3.getD ((w64 ((l3.length : Int) - (1 : Int)))).toNat (0 : Int)) 64) (chk (InB ((a_g.Succ.getD ((l3.getD ((w64 ((l3.length : Int) - (1 : Int)))).toNat (0 : Int))).toNat []).getD ((l32.getD ((l3.getD ((w64 ((l3.length : Int) - (1 : Int)))).toNat (0 : Int))).toNat (0 : Int))).toNat (0 : Int)) 64) (bif (!(l1.getD (((a_g.Succ.getD ((l3.getD ((w64 ((l3.length : Int) - (1 : Int)))).toNat (0 : Int))).toNat []).getD ((l32.getD ((l3.getD ((w64 ((l3.length : Int) - (1 : Int)))).toNat (0 : Int))).toNat (0 : Int))).toNat (0 : Int))).toNat false)) then (chk (InB ((a_g.Succ.getD ((l3.getD ((w64 ((l3.length : Int) - (1 : Int)))).toNat (0 : Int))).toNat []).getD ((l32.getD ((l3.getD ((w64 ((l3.length : Int) - (1 : Int)))).toNat (0 : Int))).toNat (0 : Int))).toNat (0 : Int)) 64) (chk (l3.length + ([((a_g.Succ.getD ((l3.getD ((w64 ((l3.length : Int) - (1 : Int)))).toNat (0 : Int))).toNat []).getD ((l32.getD ((l3.getD ((w64 ((l3.length : Int) - (1 : Int)))).toNat (0 : Int))).toNat (0 : Int))).toNat (0 : Int))] : List (Int)).length ≤ room) (some (.done (.inr ((setN 64 false l1 (((a_g.Succ.getD ((l3.getD ((w64 ((l3.length : Int) - (1 : Int)))).toNat (0 : Int))).toNat []).getD ((l32.getD ((l3.getD ((w64 ((l3.length : Int) - (1 : Int)))).toNat (0 : Int))).toNat (0 : Int))).toNat (0 : Int))).toNat true), (setN 64 (0 : Int) l32 ((l3.getD ((w64 ((l3.length : Int) - (1 : Int)))).toNat (0 : Int))).toNat (w64 ((l32.getD ((l3.getD ((w64 ((l3.length : Int) - (1 : Int)))).toNat (0 : Int))).toNat (0 : Int)) + (1 : Int)))), (l3 ++ ([((a_g.Succ.getD ((l3.getD ((w64 ((l3.length : Int) - (1 : Int)))).toNat (0 : Int))).toNat []).getD ((l32.getD ((l3.getD ((w64 ((l3.length : Int) - (1 : Int)))).toNat (0 : Int))).toNat (0 : Int))).toNat (0 : Int))] : List (Int))))))))) else (some (.next (setN 64 (0 : Int) l32 ((l3.getD ((w64 ((l3.length : Int) - (1 : Int)))).toNat (0 : Int))).toNat (w64 ((l32.getD ((l3.getD ((w64 ((l3.length : Int) - (1 : Int)))).toNat (0 : Int))).toNat (0 : Int)) + (1 : Int))))))))))))) else (some (.done (.inl l32))))))
noncomputable def m_graph_Order_F3 (a_g : TGraph) : (List (Bool) × List (Int) × List (Int) × List (Int)) → Option (LR (List (Bool) × List (Int) × List (Int) × List (Int)) (List (Int))) :=
  fun (s_ : (List (Bool) × List (Int) × List (Int) × List (Int))) => match s_ with | (l1, l2, l3, l4) => (chk (InB (w64 ((l3.length : Int) - (1 : Int))) l3.length) ((loopO (S := List (Int)) (X := (List (Int) ⊕ (List (Bool) × List (Int) × List (Int)))) (m_graph_Order_L2 a_g l1 l3) l2).bind (fun x47 => (match x47 with | (.inl l33) => (chk (l4.length + ([(l3.getD ((w64 ((l3.length : Int) - (1 : Int)))).toNat (0 : Int))] : List (Int)).length ≤ room) (chk (0 ≤ (w64 ((l3.length : Int) - (1 : Int))) ∧ 0 + ((w64 ((l3.length : Int) - (1 : Int)))).toNat ≤ l3.length) (bif (decide (((0 : Int) : Int) < ((l3.take ((w64 ((l3.length : Int) - (1 : Int)))).toNat).length : Int))) then (some (.next (l1, l33, (l3.take ((w64 ((l3.length : Int) - (1 : Int)))).toNat), (l4 ++ ([(l3.getD ((w64 ((l3.length : Int) - (1 : Int)))).toNat (0 : Int))] : List (Int)))))) else ((m_slices_Reverse_int_int (l4 ++ ([(l3.getD ((w64 ((l3.length : Int) - (1 : Int)))).toNat (0 : Int))] : List (Int)))).bind fun x51 => (chk ((l4 ++ ([(l3.getD ((w64 ((l3.length : Int) - (1 : Int)))).toNat (0 : Int))] : List (Int))).length = x51.length) (some (.done x51))))))) | (.inr (l34, l35, l36)) => (some (.next (l34, l35, l36, l4)))))))
noncomputable def Q89 (l4 : List (Int)) : AV := (.vsl 36007 l4.length)
noncomputable def Q77 := (([] : List Int).length)
noncomputable def Q63 (l3 : List (Int)) := (w64 ((l3.length : Int) - (1 : Int)))
noncomputable def Q43 (l3 : List (Int)) := (l3.getD ((Q63 l3)).toNat (0 : Int))
noncomputable def Q85 (l3 : List (Int)) := ([(Q43 l3)] : List (Int))
noncomputable def Q87 (l3 : List (Int)) := (l3.take ((Q63 l3)).toNat)
noncomputable def Q53 (l1 : List (Bool)) := (fun i => eB (l1.getD i false))
noncomputable def Q61 (a_p1 : Int) := (w64 (([a_p1].length : Int) - (1 : Int)))
noncomputable def Q84 (a_p1 : Int) := ([a_p1].take ((Q61 a_p1)).toNat)
noncomputable def Q60 (l4 : List (Int)) (l3 : List (Int)) := (l4 ++ (Q85 l3))
noncomputable def Q55 (a_g : TGraph) (l3 : List (Int)) (l32 : List (Int)) := ((a_g.Succ.getD ((Q43 l3)).toNat []).getD ((l32.getD ((Q43 l3)).toNat (0 : Int))).toNat (0 : Int))
noncomputable def Q70 (a_g : TGraph) (l3 : List (Int)) (l32 : List (Int)) := ([(Q55 a_g l3 l32)] : List (Int))
noncomputable def Q42 (a_p1 : Int) := ([a_p1].getD ((Q61 a_p1)).toNat (0 : Int))
noncomputable def Q54 (a_g : TGraph) (a_p1 : Int) (l9 : List (Int)) := ((a_g.Succ.getD ((Q42 a_p1)).toNat []).getD ((l9.getD ((Q42 a_p1)).toNat (0 : Int))).toNat (0 : Int))
noncomputable def Q69 (a_g : TGraph) (a_p1 : Int) (l9 : List (Int)) := ([(Q54 a_g a_p1 l9)] : List (Int))
noncomputable def Q79 : AV := (.vsl 36007 ([] : List Int).length)
noncomputable def Q50 (l3 : List (Int)) := (fun i => eI64 (l3.getD i (0 : Int)))
noncomputable def Q52 (l4 : List (Int)) := (fun i => eI64 (l4.getD i (0 : Int)))
noncomputable def Q74 (l10 : List (Int)) := (fun i => eI64 (l10.getD i (0 : Int)))
noncomputable def Q75 (l33 : List (Int)) := (fun i => eI64 (l33.getD i (0 : Int)))
noncomputable def Q81 (x28 : List (Int)) := (fun i => eI64 (x28.getD i (0 : Int)))
noncomputable def Q82 (x51 : List (Int)) := (fun i => eI64 (x51.getD i (0 : Int)))
noncomputable def Q51 := (fun n_ => memB n_ [2, 5, 6, 25, 36007])
noncomputable def Q47 (a_p1 : Int) := (fun i => eI64 ([a_p1].getD i (0 : Int)))
noncomputable def Q56 (a_p1 : Int) := (([] : List Int) ++ ([(Q42 a_p1)] : List (Int)))
noncomputable def Q72 (a_p1 : Int) := (fun i => eI64 ((Q56 a_p1).getD i (0 : Int)))
noncomputable def Q71 (l4 : List (Int)) (l3 : List (Int)) := (fun i => eI64 ((Q60 l4 l3).getD i (0 : Int)))
noncomputable def Q48 : AV := (AV.list 1 eI64 (0 : Int) ([] : List Int) .exact)
noncomputable def Q46 := (fun i => eI64 (([] : List Int).getD i (0 : Int)))
noncomputable def Q80 := (fun i => eB ((List.replicate 64 false).getD i false))
noncomputable def Q76 (a_p1 : Int) := (([] : List Int).length + ([(Q42 a_p1)] : List (Int)).length)
noncomputable def Q49 := (fun i => eI64 ((List.replicate 64 (0 : Int)).getD i (0 : Int)))
noncomputable def Q44 (a_g : TGraph) : List AV := [(AV.list 1 eLI64 [] a_g.Succ .none), (AV.list 1 eLI64 [] a_g.Pred .none)]
noncomputable def Q78 (l1 : List (Bool)) (a_g : TGraph) (l3 : List (Int)) (l32 : List (Int)) := (fun i => eB ((setN 64 false l1 ((Q55 a_g l3 l32)).toNat true).getD i false))
noncomputable def Q45 (a_p1 : Int) := (fun i => eB ((setN 64 false (List.replicate 64 false) (a_p1).toNat true).getD i false))
noncomputable def Q83 (a_p1 : Int) : List (Nat × AV) := [(1, (.int .i64 a_p1)), (2, (.ptr 2 0)), (5, (.vpt 5 64 0 0)), (6, (.vpt 6 64 0 0)), (7, Q48)]
noncomputable def Q88 (a_p1 : Int) : List (Nat × AV) := [(2, (.ptr 2 0)), (5, (.vpt 5 64 0 0)), (6, (.vpt 6 64 0 0)), (7, (.vsl 36007 (Q76 a_p1))), (8, (.vsl 25 [a_p1].length))]
noncomputable def Q58 (l32 : List (Int)) (l3 : List (Int)) := (fun i => eI64 ((setN 64 (0 : Int) l32 ((Q43 l3)).toNat (w64 ((l32.getD ((Q43 l3)).toNat (0 : Int)) + (1 : Int)))).getD i (0 : Int)))
noncomputable def Q57 (l9 : List (Int)) (a_p1 : Int) := (fun i => eI64 ((setN 64 (0 : Int) l9 ((Q42 a_p1)).toNat (w64 ((l9.getD ((Q42 a_p1)).toNat (0 : Int)) + (1 : Int)))).getD i (0 : Int)))
noncomputable def Q67 (a_p1 : Int) (a_g : TGraph) (l9 : List (Int)) := (fun i => eB ((setN 64 false (setN 64 false (List.replicate 64 false) (a_p1).toNat true) ((Q54 a_g a_p1 l9)).toNat true).getD i false))
noncomputable def Q86 (a_p1 : Int) : List (Nat × AV) := [(2, (.ptr 2 0)), (5, (.vpt 5 64 0 0)), (6, (.vpt 6 64 0 0)), (7, (.vsl 36007 (Q56 a_p1).length)), (8, (.vsl 25 (0 + ((Q61 a_p1)).toNat)))]
noncomputable def Q65 (l4 : List (Int)) (l3 : List (Int)) : List (Nat × AV) := [(2, (.ptr 2 0)), (5, (.vpt 5 64 0 0)), (6, (.vpt 6 64 0 0)), (7, (Q89 l4)), (8, (.vsl 25 l3.length)), (9, (.int .i64 (Q43 l3)))]
noncomputable def Q64 (a_p1 : Int) : List (Nat × AV) := [(2, (.ptr 2 0)), (5, (.vpt 5 64 0 0)), (6, (.vpt 6 64 0 0)), (7, Q79), (8, (.vsl 25 [a_p1].length)), (9, (.int .i64 (Q42 a_p1)))]
noncomputable def Q68 (l4 : List (Int)) (l3 : List (Int)) (a_g : TGraph) (l32 : List (Int)) : List (Nat × AV) := [(2, (.ptr 2 0)), (5, (.vpt 5 64 0 0)), (6, (.vpt 6 64 0 0)), (7, (Q89 l4)), (8, (.vsl 25 l3.length)), (9, (.int .i64 (Q43 l3))), (10, (.int .i64 (Q55 a_g l3 l32)))]
noncomputable def Q62 (a_g : TGraph) (l1 : List (Bool)) (l32 : List (Int)) (l3 : List (Int)) (l4 : List (Int)) : List (Nat × Own) := [(2, .row 30 (Q44 a_g)), (5, .arr 1 68 64 (Q53 l1)), (6, .arr 1 69 64 (fun i => eI64 (l32.getD i (0 : Int)))), (25, .arr 1 3 l3.length (Q50 l3)), (36007, .arr 1 3 l4.length (Q52 l4))]
noncomputable def Q66 (a_p1 : Int) (a_g : TGraph) (l9 : List (Int)) : List (Nat × AV) := [(2, (.ptr 2 0)), (5, (.vpt 5 64 0 0)), (6, (.vpt 6 64 0 0)), (7, Q79), (8, (.vsl 25 [a_p1].length)), (9, (.int .i64 (Q42 a_p1))), (10, (.int .i64 (Q54 a_g a_p1 l9)))]
noncomputable def Q59 (a_g : TGraph) (a_p1 : Int) (l9 : List (Int)) : List (Nat × Own) := [(2, .row 30 (Q44 a_g)), (5, .arr 1 68 64 (Q45 a_p1)), (6, .arr 1 69 64 (fun i => eI64 (l9.getD i (0 : Int)))), (25, .arr 1 3 ([a_p1].length) (Q47 a_p1)), (36007, .arr 1 3 Q77 Q46)]
noncomputable def Q73 (a_p1 : Int) (a_g : TGraph) := (⟨[(2, (.ptr 2 0)), (5, (.vpt 5 64 0 0)), (6, (.vpt 6 64 0 0)), (7, Q48), (8, (.vsl 25 [a_p1].length)), (9, (.int .i64 (Q42 a_p1)))], [(2, .row 30 (Q44 a_g)), (5, .arr 1 68 64 (Q45 a_p1)), (6, .arr 1 69 64 Q49), (25, .arr 1 3 ([a_p1].length) (Q47 a_p1))], []⟩ : St)
noncomputable def m_graph_Order (a_g : TGraph) (a_p1 : Int) : Option (List (Int)) :=
  ((scopeO (S := (List (Bool) × List (Int) × List (Int) × List (Int))) (X := List (Int)) ((m_graph_May a_g).bind fun x5 => ((bif ((!x5) == false) then m_graph_isPlace a_p1 (a_g.Succ.length : Int) else some false).bind fun x6 => (bif (bif (!x5) then true else (!x6)) then (some (.done ([] : List Int))) else (chk (InB a_p1 64) (chk (InB (w64 (([a_p1].length : Int) - (1 : Int))) [a_p1].length) ((loopO (S := List (Int)) (X := (List (Int) ⊕ (List (Bool) × List (Int) × List (Int)))) (m_graph_Order_L1 a_g a_p1) (List.replicate 64 (0 : Int))).bind (fun x24 => (match x24 with | (.inl l10) => (chk (([] : List Int).length + ([([a_p1].getD ((w64 (([a_p1].length : Int) - (1 : Int)))).toNat (0 : Int))] : List (Int)).length ≤ room) (chk (0 ≤ (w64 (([a_p1].length : Int) - (1 : Int))) ∧ 0 + ((w64 (([a_p1].length : Int) - (1 : Int)))).toNat ≤ [a_p1].length) (bif (decide (((0 : Int) : Int) < (([a_p1].take ((w64 (([a_p1].length : Int) - (1 : Int)))).toNat).length : Int))) then (some (.next ((setN 64 false (List.replicate 64 false) (a_p1).toNat true), l10, ([a_p1].take ((w64 (([a_p1].length : Int) - (1 : Int)))).toNat), (([] : List Int) ++ ([([a_p1].getD ((w64 (([a_p1].length : Int) - (1 : Int)))).toNat (0 : Int))] : List (Int)))))) else ((m_slices_Reverse_int_int (([] : List Int) ++ ([([a_p1].getD ((w64 (([a_p1].length : Int) - (1 : Int)))).toNat (0 : Int))] : List (Int)))).bind fun x28 => (chk ((([] : List Int) ++ ([([a_p1].getD ((w64 (([a_p1].length : Int) - (1 : Int)))).toNat (0 : Int))] : List (Int))).length = x28.length) (some (.done x28))))))) | (.inr (l11, l12, l13)) => (some (.next (l11, l12, l13, ([] : List Int)))))))))))) (m_graph_Order_F3 a_g)).bind (fun x54 => ((some x54))))
theorem ok_graph_Order (a_g : TGraph) (a_p1 : Int) (r : List (Int)) (h : m_graph_Order a_g a_p1 = some r) : Spec Try.prog 20 [(.agg (eTGraph a_g)), (.int .i64 a_p1)] [] (AV.list 1 eI64 (0 : Int) r (.own 20000)) [(20000, .tok 1 3 r.length)] := by
  refine spec_of_awp (fn := Try.f20) Try.func20 rfl rfl (by kernel_rfl) (fun Γ hn hΓ => ?_)
  have hn : Γ.n = 82 := hn
  unfold m_graph_Order at h
  refine rgs [] [(4, Q48)] (⟨[(1, (.int .i64 a_p1)), (2, (.ptr 2 0))], [(2, .row 30 (Q44 a_g))], []⟩ : St) [(AVle (.slice 0 0 (fun _ => []) .exact) Q48)] hn mix (no_hand hΓ) (by kernel_rfl) ⟨av_nil, trivial⟩ ?_
  obtain ⟨x54, hx54, h⟩ := bind_some h
  refine awp_scope (S := (List (Bool) × List (Int) × List (Int) × List (Int))) (X := List (Int)) (fun (s_ : (List (Bool) × List (Int) × List (Int) × List (Int))) => match s_ with | (l1, l2, l3, l4) => 0) (fun (s_ : (List (Bool) × List (Int) × List (Int) × List (Int))) => match s_ with | (l1, l2, l3, l4) => (⟨[(2, (.ptr 2 0)), (5, (.vpt 5 64 0 0)), (6, (.vpt 6 64 0 0)), (7, (Q89 l4)), (8, (.vsl 25 l3.length))], [(2, .row 30 (Q44 a_g)), (5, .arr 1 68 64 (Q53 l1)), (6, .arr 1 69 64 (fun i => eI64 (l2.getD i (0 : Int)))), (25, .arr 1 3 l3.length (Q50 l3)), (36007, .arr 1 3 l4.length (Q52 l4))], []⟩ : St)) _ _ (fun (r_ : List (Int)) (e : Exit) (st : St) => e = .ret ∧ retK Try.prog Try.f20.results.toList [] (AV.list 1 eI64 (0 : Int) r_ (.own 20000)) [(20000, .tok 1 3 r_.length)] e st) ?_ ?_ hx54 ?_
  · clear h hx54
    intro y h
    refine awp_seq ?_
    obtain ⟨x5, hx5, h⟩ := bind_some h
    obtain ⟨x6, hx6, h⟩ := bind_some h
    refine rgs [⟨[], [], (.bool x5), []⟩, ⟨[], [], (.bool x6), []⟩] [] (⟨[(1, (.int .i64 a_p1)), (2, (.ptr 2 0)), (21, (.bool (bif (!x5) then true else (!x6))))], [(2, .row 30 (Q44 a_g))], []⟩ : St) [(Spec Try.prog 14 [(.agg (eTGraph a_g))] [] (.bool x5) []), (((!x5) == false) = true → ((!x5) == false) = true), (((!x5) == false) = true → ((!x5) == false) = true), (((!x5) == false) = true → ((!x5) == false) = true), (((!x5) == false) = true → ((!x5) == false) = true), (((!x5) == false) = true → (Spec Try.prog 33 [(.int .i64 a_p1), (.int .i64 (a_g.Succ.length : Int))] [] (.bool x6) [])), (((!x5) == false) = true → ((!x5) == false) = true), ((!x5) = false → ((!x5) == false) = true)] hn mix (no_hand hΓ) (by kernel_rfl) ⟨(ok_graph_May a_g x5 hx5), (fun hg => hg), (fun hg => hg), (fun hg => hg), (fun hg => hg), (fun hg => (ok_graph_isPlace a_p1 (a_g.Succ.length : Int) x6 (cond_t hg hx6))), (fun hg => hg), gF, trivial⟩ ?_
    refine awp_cond (bif (!x5) then true else (!x6)) (by kernel_rfl) (fun hb => ?_) (fun hb => ?_)
    · replace h := cond_t hb h
      clear hb
      refine rgs [] [(4, Q48)] (⟨[(4, Q48)], [], []⟩ : St) [(AVle (.slice 0 0 (fun _ => []) .exact) Q48)] hn mix (no_hand hΓ) (by kernel_rfl) ⟨av_nil, trivial⟩ ?_
      refine awp_le (st' := (⟨[(4, (AV.list 1 eI64 (0 : Int) ([] : List Int) (.own 6004)))], [(6004, .tok 1 3 Q77)], []⟩ : St)) (Le.trans (le_restrict_eq (st' := (⟨[(4, Q48)], [], []⟩ : St)) [4] [] (by kernel_rfl) (no_hand hΓ)) (Le.trans (le_tag (t := 4) (nm := 6004) (sz' := 1) Q46 3 rfl rfl (.inl ⟨rfl, rfl⟩) (fun h_ => absurd h_ (by decide))) (le_restrict_eq (st' := (⟨[(4, (AV.list 1 eI64 (0 : Int) ([] : List Int) (.own 6004)))], [(6004, .tok 1 3 Q77)], []⟩ : St)) [4] [6004] (by kernel_rfl) (no_hand hΓ)))) ?_
      refine awp_ret ?_
      refine then_ret ?_
      obtain rfl := Option.some.inj h
      exact ⟨(by intro l hh; cases hh), rfl, ⟨.inl rfl, [(6004, 20000)], by kernel_rfl⟩⟩
    · replace h := cond_f hb h
      clear hb
      refine awp_skip ?_
      refine then_normal ?_
      refine rgs [] [(5, (.vpt 5 64 0 0))] (⟨[(1, (.int .i64 a_p1)), (2, (.ptr 2 0)), (5, (.vpt 5 64 0 0))], [(2, .row 30 (Q44 a_g)), (5, .arr 1 68 64 (fun i_ => AV.eraseAll (fun n_ => memB n_ [2, 5]) ((fun i => (((List.replicate 64 [(.bool false)]).flatten).drop (i * 1)).take 1) i_)))], []⟩ : St) [] hn mix (no_hand hΓ) (by kernel_rfl) trivial ?_
      refine awp_le (le_of (st' := (⟨[(1, (.int .i64 a_p1)), (2, (.ptr 2 0)), (5, (.vpt 5 64 0 0))], [(2, .row 30 (Q44 a_g)), (5, .arr 1 68 64 Q80)], []⟩ : St)) (TmpsLe.refl _) (.same (.arr (arrE_zero (e := eB) (d := false) (z := [(.bool false)]) rfl rfl rfl) .nil))) ?_
      refine rgs [] [(6, (.vpt 6 64 0 0))] (⟨[(1, (.int .i64 a_p1)), (2, (.ptr 2 0)), (5, (.vpt 5 64 0 0)), (6, (.vpt 6 64 0 0))], [(2, .row 30 (Q44 a_g)), (5, .arr 1 68 64 Q80), (6, .arr 1 69 64 (fun i_ => AV.eraseAll (fun n_ => memB n_ [2, 5, 6]) ((fun i => (((List.replicate 64 [(.int .i64 (0 : Int))]).flatten).drop (i * 1)).take 1) i_)))], []⟩ : St) [] hn mix (no_hand hΓ) (by kernel_rfl) trivial ?_
      refine awp_le (le_of (st' := (⟨[(1, (.int .i64 a_p1)), (2, (.ptr 2 0)), (5, (.vpt 5 64 0 0)), (6, (.vpt 6 64 0 0))], [(2, .row 30 (Q44 a_g)), (5, .arr 1 68 64 Q80), (6, .arr 1 69 64 Q49)], []⟩ : St)) (TmpsLe.refl _) (.same (.same (.arr (arrE_zero (e := eI64) (d := (0 : Int)) (z := [(.int .i64 (0 : Int))]) rfl rfl rfl) .nil)))) ?_
      refine rgs [] [(7, Q48)] (⟨(Q83 a_p1), [(2, .row 30 (Q44 a_g)), (5, .arr 1 68 64 Q80), (6, .arr 1 69 64 Q49)], []⟩ : St) [(AVle (.slice 0 0 (fun _ => []) .exact) Q48)] hn mix (no_hand hΓ) (by kernel_rfl) ⟨av_nil, trivial⟩ ?_
      obtain ⟨hc7, h⟩ := chk_some h
      refine rgs [] [] (⟨(Q83 a_p1), [(2, .row 30 (Q44 a_g)), (5, .arr 1 68 64 (fun i_ => AV.eraseAll (fun n_ => memB n_ [2, 5, 6]) ((putF Q80 (a_p1).toNat 0 [(.bool true)]) i_))), (6, .arr 1 69 64 Q49)], []⟩ : St) [(InB a_p1 64), (64 = 64)] hn mix (no_hand hΓ) (by kernel_rfl) ⟨hc7, rfl, trivial⟩ ?_
      refine awp_le (le_of (st' := (⟨(Q83 a_p1), [(2, .row 30 (Q44 a_g)), (5, .arr 1 68 64 (Q45 a_p1)), (6, .arr 1 69 64 Q49)], []⟩ : St)) (TmpsLe.refl _) (.same (.arr (leL_of_eq rfl (fun k_ hk_ => (congrArg (AV.eraseAll (fun n_ => memB n_ [2, 5, 6])) ((putF_setN (fun _ _ => rfl) (inB_lit hc7) rfl) k_ hk_)).trans rfl)) (.same .nil)))) ?_
      refine rgs [] [(25, (.vsl 25 1))] (⟨[(2, (.ptr 2 0)), (5, (.vpt 5 64 0 0)), (6, (.vpt 6 64 0 0)), (7, Q48), (8, (.vsl 25 1))], [(2, .row 30 (Q44 a_g)), (5, .arr 1 68 64 (Q45 a_p1)), (6, .arr 1 69 64 Q49), (25, .arr 1 3 1 (fun i_ => AV.eraseAll (fun n_ => memB n_ [2, 5, 6, 25]) ((fun i_ => ([(.int .i64 a_p1)].drop (i_ * 1)).take 1) i_)))], []⟩ : St) [] hn mix (no_hand hΓ) (by kernel_rfl) trivial ?_
      refine awp_le (Le.trans (le_of (st' := (⟨[(2, (.ptr 2 0)), (5, (.vpt 5 64 0 0)), (6, (.vpt 6 64 0 0)), (7, Q48), (8, (.vsl 25 1))], [(2, .row 30 (Q44 a_g)), (5, .arr 1 68 64 (Q45 a_p1)), (6, .arr 1 69 64 Q49), (25, .arr 1 3 1 (Q47 a_p1))], []⟩ : St)) (TmpsLe.refl _) (.same (.same (.same (.arr (leL_of_eq rfl (pw_snoc (n := 0) pw_nil rfl)) .nil))))) (le_eq (congrArg (fun k_ : Nat => (⟨[(2, (.ptr 2 0)), (5, (.vpt 5 64 0 0)), (6, (.vpt 6 64 0 0)), (7, Q48), (8, (.vsl 25 k_))], [(2, .row 30 (Q44 a_g)), (5, .arr 1 68 64 (Q45 a_p1)), (6, .arr 1 69 64 Q49), (25, .arr 1 3 k_ (Q47 a_p1))], []⟩ : St)) (show 1 = [a_p1].length from rfl)))) ?_
      refine awp_seq ?_
      refine awp_label ?_
      refine then_normal ?_
      obtain ⟨hc8, h⟩ := chk_some h
      refine rgs [] [] (Q73 a_p1 a_g) [(InB (Q61 a_p1) [a_p1].length), ([a_p1].length = [a_p1].length)] hn mix (no_hand hΓ) (by kernel_rfl) ⟨hc8, rfl, trivial⟩ ?_
      refine awp_seq ?_
      refine awp_block ?_
      refine awp_le (st' := (fun (l9 : List (Int)) => (⟨(Q64 a_p1), (Q59 a_g a_p1 l9), []⟩ : St)) (List.replicate 64 (0 : Int))) (Le.trans (le_restrict_eq (st' := (Q73 a_p1 a_g)) [2, 5, 6, 7, 8, 9] [2, 5, 6, 25] (by kernel_rfl) (no_hand hΓ)) (Le.trans (le_arr (t := 7) (nm := 36007) (sz' := 1) Q46 3 rfl rfl) (le_restrict_eq (st' := (⟨(Q64 a_p1), [(2, .row 30 (Q44 a_g)), (5, .arr 1 68 64 (Q45 a_p1)), (6, .arr 1 69 64 Q49), (25, .arr 1 3 ([a_p1].length) (Q47 a_p1)), (36007, .arr 1 3 Q77 Q46)], []⟩ : St)) [2, 5, 6, 7, 8, 9] [2, 5, 6, 25, 36007] (by kernel_rfl) (no_hand hΓ)))) ?_
      obtain ⟨x24, hx24, h⟩ := bind_some h
      refine awp_loop (fun (l9 : List (Int)) => (⟨(Q64 a_p1), (Q59 a_g a_p1 l9), []⟩ : St)) _ (fun (x_ : (List (Int) ⊕ (List (Bool) × List (Int) × List (Int)))) (e : Exit) (st : St) => match x_ with | (.inl l10) => e = (.exit 0) ∧ Le Γ st (⟨(Q64 a_p1), [(2, .row 30 (Q44 a_g)), (5, .arr 1 68 64 (Q45 a_p1)), (6, .arr 1 69 64 (Q74 l10)), (25, .arr 1 3 ([a_p1].length) (Q47 a_p1)), (36007, .arr 1 3 Q77 Q46)], []⟩ : St) | (.inr (l11, l12, l13)) => e = (.goto 0) ∧ Le Γ st (⟨[(2, (.ptr 2 0)), (5, (.vpt 5 64 0 0)), (6, (.vpt 6 64 0 0)), (7, Q79), (8, (.vsl 25 l13.length))], [(2, .row 30 (Q44 a_g)), (5, .arr 1 68 64 (fun i => eB (l11.getD i false))), (6, .arr 1 69 64 (fun i => eI64 (l12.getD i (0 : Int)))), (25, .arr 1 3 l13.length (fun i => eI64 (l13.getD i (0 : Int)))), (36007, .arr 1 3 Q77 Q46)], []⟩ : St)) ?_ hx24 ?_
      · intro l9 y h
        unfold m_graph_Order_L1 at h
        refine awp_seq ?_
        obtain ⟨hc14, h⟩ := chk_some h
        obtain ⟨hc15, h⟩ := chk_some h
        refine rgs [] [] (⟨[(2, (.ptr 2 0)), (5, (.vpt 5 64 0 0)), (6, (.vpt 6 64 0 0)), (7, Q79), (8, (.vsl 25 [a_p1].length)), (9, (.int .i64 (Q42 a_p1))), (41, (.bool (decide (((l9.getD ((Q42 a_p1)).toNat (0 : Int)) : Int) < ((a_g.Succ.getD ((Q42 a_p1)).toNat []).length : Int)))))], (Q59 a_g a_p1 l9), []⟩ : St) [(InB (Q42 a_p1) 64), (64 = 64), (InB (Q42 a_p1) a_g.Succ.length)] hn mix (no_hand hΓ) (by kernel_rfl) ⟨hc14, rfl, hc15, trivial⟩ ?_
        refine awp_cond (decide (((l9.getD ((Q42 a_p1)).toNat (0 : Int)) : Int) < ((a_g.Succ.getD ((Q42 a_p1)).toNat []).length : Int))) (by kernel_rfl) (fun hb => ?_) (fun hb => ?_)
        · replace h := cond_t hb h
          clear hb
          refine awp_skip ?_
          refine then_normal ?_
          refine awp_block ?_
          obtain ⟨hc16, h⟩ := chk_some h
          obtain ⟨hc17, h⟩ := chk_some h
          obtain ⟨hc18, h⟩ := chk_some h
          refine rgs [] [] (⟨(Q66 a_p1 a_g l9), (Q59 a_g a_p1 l9), []⟩ : St) [(InB (Q42 a_p1) a_g.Succ.length), (InB (Q42 a_p1) 64), (64 = 64), (InB (l9.getD ((Q42 a_p1)).toNat (0 : Int)) (a_g.Succ.getD ((Q42 a_p1)).toNat []).length)] hn mix (no_hand hΓ) (by kernel_rfl) ⟨hc16, hc17, rfl, hc18, trivial⟩ ?_
          obtain ⟨hc19, h⟩ := chk_some h
          obtain ⟨hc20, h⟩ := chk_some h
          refine rgs [] [] (⟨(Q66 a_p1 a_g l9), [(2, .row 30 (Q44 a_g)), (5, .arr 1 68 64 (Q45 a_p1)), (6, .arr 1 69 64 (fun i_ => AV.eraseAll Q51 ((putF (fun i => eI64 (l9.getD i (0 : Int))) ((Q42 a_p1)).toNat 0 [(.int .i64 (w64 ((l9.getD ((Q42 a_p1)).toNat (0 : Int)) + (1 : Int))))]) i_))), (25, .arr 1 3 ([a_p1].length) (Q47 a_p1)), (36007, .arr 1 3 Q77 Q46)], []⟩ : St) [(InB (Q42 a_p1) 64), (64 = 64), (InB (Q42 a_p1) 64), (64 = 64)] hn mix (no_hand hΓ) (by kernel_rfl) ⟨hc19, rfl, hc20, rfl, trivial⟩ ?_
          refine awp_le (le_of (st' := (⟨(Q66 a_p1 a_g l9), [(2, .row 30 (Q44 a_g)), (5, .arr 1 68 64 (Q45 a_p1)), (6, .arr 1 69 64 (Q57 l9 a_p1)), (25, .arr 1 3 ([a_p1].length) (Q47 a_p1)), (36007, .arr 1 3 Q77 Q46)], []⟩ : St)) (TmpsLe.refl _) (.same (.same (.arr (leL_of_eq rfl (fun k_ hk_ => (congrArg (AV.eraseAll Q51) ((putF_setN (fun _ _ => rfl) (inB_lit hc20) rfl) k_ hk_)).trans rfl)) (.same (.same .nil)))))) ?_
          obtain ⟨hc21, h⟩ := chk_some h
          refine rgs [] [] (⟨[(2, (.ptr 2 0)), (5, (.vpt 5 64 0 0)), (6, (.vpt 6 64 0 0)), (7, Q79), (8, (.vsl 25 [a_p1].length)), (9, (.int .i64 (Q42 a_p1))), (10, (.int .i64 (Q54 a_g a_p1 l9))), (60, (.bool (!((setN 64 false (List.replicate 64 false) (a_p1).toNat true).getD ((Q54 a_g a_p1 l9)).toNat false))))], [(2, .row 30 (Q44 a_g)), (5, .arr 1 68 64 (Q45 a_p1)), (6, .arr 1 69 64 (Q57 l9 a_p1)), (25, .arr 1 3 ([a_p1].length) (Q47 a_p1)), (36007, .arr 1 3 Q77 Q46)], []⟩ : St) [(InB (Q54 a_g a_p1 l9) 64), (64 = 64)] hn mix (no_hand hΓ) (by kernel_rfl) ⟨hc21, rfl, trivial⟩ ?_
          refine awp_cond (!((setN 64 false (List.replicate 64 false) (a_p1).toNat true).getD ((Q54 a_g a_p1 l9)).toNat false)) (by kernel_rfl) (fun hb => ?_) (fun hb => ?_)
          · replace h := cond_t hb h
            clear hb
            obtain ⟨hc22, h⟩ := chk_some h
            refine rgs [] [] (⟨[(2, (.ptr 2 0)), (5, (.vpt 5 64 0 0)), (6, (.vpt 6 64 0 0)), (7, Q79), (8, (.vsl 25 [a_p1].length)), (10, (.int .i64 (Q54 a_g a_p1 l9)))], [(2, .row 30 (Q44 a_g)), (5, .arr 1 68 64 (fun i_ => AV.eraseAll Q51 ((putF (Q45 a_p1) ((Q54 a_g a_p1 l9)).toNat 0 [(.bool true)]) i_))), (6, .arr 1 69 64 (Q57 l9 a_p1)), (25, .arr 1 3 ([a_p1].length) (Q47 a_p1)), (36007, .arr 1 3 Q77 Q46)], []⟩ : St) [(InB (Q54 a_g a_p1 l9) 64), (64 = 64)] hn mix (no_hand hΓ) (by kernel_rfl) ⟨hc22, rfl, trivial⟩ ?_
            refine awp_le (le_of (st' := (⟨[(2, (.ptr 2 0)), (5, (.vpt 5 64 0 0)), (6, (.vpt 6 64 0 0)), (7, Q79), (8, (.vsl 25 [a_p1].length)), (10, (.int .i64 (Q54 a_g a_p1 l9)))], [(2, .row 30 (Q44 a_g)), (5, .arr 1 68 64 (Q67 a_p1 a_g l9)), (6, .arr 1 69 64 (Q57 l9 a_p1)), (25, .arr 1 3 ([a_p1].length) (Q47 a_p1)), (36007, .arr 1 3 Q77 Q46)], []⟩ : St)) (TmpsLe.refl _) (.same (.arr (leL_of_eq rfl (fun k_ hk_ => (congrArg (AV.eraseAll Q51) ((putF_setN (fun _ _ => rfl) (inB_lit hc22) rfl) k_ hk_)).trans rfl)) (.same (.same (.same .nil)))))) ?_
            obtain ⟨hc23, h⟩ := chk_some h
            refine rgs [] [(65, (AV.list 1 eI64 (0 : Int) (Q69 a_g a_p1 l9) .exact))] (⟨[(2, (.ptr 2 0)), (5, (.vpt 5 64 0 0)), (6, (.vpt 6 64 0 0)), (7, Q79), (8, (.vsl 25 ([a_p1].length + (Q69 a_g a_p1 l9).length)))], [(2, .row 30 (Q44 a_g)), (5, .arr 1 68 64 (Q67 a_p1 a_g l9)), (6, .arr 1 69 64 (Q57 l9 a_p1)), (25, .arr 1 3 ([a_p1].length + (Q69 a_g a_p1 l9).length) (fun i_ => AV.eraseAll Q51 ((appF ([a_p1].length) (Q47 a_p1) (fun i => eI64 ((Q69 a_g a_p1 l9).getD i (0 : Int)))) i_))), (36007, .arr 1 3 Q77 Q46)], []⟩ : St) [(AVle (.slice 1 1 (fun i => ([[(.int .i64 (Q54 a_g a_p1 l9))]] : List (List AV)).getD i []) .exact) (AV.list 1 eI64 (0 : Int) (Q69 a_g a_p1 l9) .exact)), ([a_p1].length = [a_p1].length), ([a_p1].length + (Q69 a_g a_p1 l9).length ≤ room)] hn mix (no_hand hΓ) (by kernel_rfl) ⟨(av_lit rfl (fun i hi => map_get (e := eI64) (d := (0 : Int)) (Q69 a_g a_p1 l9) i hi)), rfl, hc23, trivial⟩ ?_
            refine awp_le (Le.trans (le_of (st' := (⟨[(2, (.ptr 2 0)), (5, (.vpt 5 64 0 0)), (6, (.vpt 6 64 0 0)), (7, Q79), (8, (.vsl 25 ([a_p1].length + (Q69 a_g a_p1 l9).length)))], [(2, .row 30 (Q44 a_g)), (5, .arr 1 68 64 (Q67 a_p1 a_g l9)), (6, .arr 1 69 64 (Q57 l9 a_p1)), (25, .arr 1 3 ([a_p1].length + (Q69 a_g a_p1 l9).length) (fun i => eI64 (([a_p1] ++ (Q69 a_g a_p1 l9)).getD i (0 : Int)))), (36007, .arr 1 3 Q77 Q46)], []⟩ : St)) (TmpsLe.refl _) (.same (.same (.same (.arr (leL_of_eq (len_app _ _) (fun k_ hk_ => (congrArg (AV.eraseAll Q51) ((appF_app (fun _ _ => rfl) (fun _ _ => rfl)) k_ hk_)).trans rfl)) (.same .nil)))))) (le_eq (congrArg (fun k_ : Nat => (⟨[(2, (.ptr 2 0)), (5, (.vpt 5 64 0 0)), (6, (.vpt 6 64 0 0)), (7, Q79), (8, (.vsl 25 k_))], [(2, .row 30 (Q44 a_g)), (5, .arr 1 68 64 (Q67 a_p1 a_g l9)), (6, .arr 1 69 64 (Q57 l9 a_p1)), (25, .arr 1 3 k_ (fun i => eI64 (([a_p1] ++ (Q69 a_g a_p1 l9)).getD i (0 : Int)))), (36007, .arr 1 3 Q77 Q46)], []⟩ : St)) (show ([a_p1].length + (Q69 a_g a_p1 l9).length) = ([a_p1] ++ (Q69 a_g a_p1 l9)).length from (len_app _ _))))) ?_
            refine awp_goto ?_
            refine block_goto ?_
            obtain rfl := Option.some.inj h
            exact ⟨(by intro hh; cases hh), rfl, Le.refl _ _⟩
          · replace h := cond_f hb h
            clear hb
            refine awp_skip ?_
            refine block_normal ?_
            obtain rfl := Option.some.inj h
            exact ⟨rfl, le_restrict_eq [2, 5, 6, 7, 8, 9] [2, 5, 6, 25, 36007] (by kernel_rfl) (no_hand hΓ)⟩
        · replace h := cond_f hb h
          clear hb
          refine awp_exit ?_
          refine then_exit ?_
          obtain rfl := Option.some.inj h
          exact ⟨(by intro hh; cases hh), rfl, le_restrict_eq [2, 5, 6, 7, 8, 9] [2, 5, 6, 25, 36007] (by kernel_rfl) (no_hand hΓ)⟩
      · clear hx24
        rcases x24 with l10 | ⟨l11, l12, l13⟩
        · rintro e st' ⟨rfl, hl25⟩
          refine block_here ?_
          refine then_normal ?_
          refine awp_le hl25 ?_
          obtain ⟨hc26, h⟩ := chk_some h
          refine rgs [] [(69, (AV.list 1 eI64 (0 : Int) ([(Q42 a_p1)] : List (Int)) .exact))] (⟨(Q88 a_p1), [(2, .row 30 (Q44 a_g)), (5, .arr 1 68 64 (Q45 a_p1)), (6, .arr 1 69 64 (Q74 l10)), (25, .arr 1 3 ([a_p1].length) (Q47 a_p1)), (36007, .arr 1 3 (Q76 a_p1) (fun i_ => AV.eraseAll Q51 ((appF Q77 Q46 (fun i => eI64 (([(Q42 a_p1)] : List (Int)).getD i (0 : Int)))) i_)))], []⟩ : St) [(AVle (.slice 1 1 (fun i => ([[(.int .i64 (Q42 a_p1))]] : List (List AV)).getD i []) .exact) (AV.list 1 eI64 (0 : Int) ([(Q42 a_p1)] : List (Int)) .exact)), (([] : List Int).length = ([] : List Int).length), (([] : List Int).length + ([(Q42 a_p1)] : List (Int)).length ≤ room)] hn mix (no_hand hΓ) (by kernel_rfl) ⟨(av_lit rfl (fun i hi => map_get (e := eI64) (d := (0 : Int)) ([(Q42 a_p1)] : List (Int)) i hi)), rfl, hc26, trivial⟩ ?_
          refine awp_le (Le.trans (le_of (st' := (⟨(Q88 a_p1), [(2, .row 30 (Q44 a_g)), (5, .arr 1 68 64 (Q45 a_p1)), (6, .arr 1 69 64 (Q74 l10)), (25, .arr 1 3 ([a_p1].length) (Q47 a_p1)), (36007, .arr 1 3 (Q76 a_p1) (Q72 a_p1))], []⟩ : St)) (TmpsLe.refl _) (.same (.same (.same (.same (.arr (leL_of_eq (len_app _ _) (fun k_ hk_ => (congrArg (AV.eraseAll Q51) ((appF_app (fun _ _ => rfl) (fun _ _ => rfl)) k_ hk_)).trans rfl)) .nil)))))) (le_eq (congrArg (fun k_ : Nat => (⟨[(2, (.ptr 2 0)), (5, (.vpt 5 64 0 0)), (6, (.vpt 6 64 0 0)), (7, (.vsl 36007 k_)), (8, (.vsl 25 [a_p1].length))], [(2, .row 30 (Q44 a_g)), (5, .arr 1 68 64 (Q45 a_p1)), (6, .arr 1 69 64 (Q74 l10)), (25, .arr 1 3 ([a_p1].length) (Q47 a_p1)), (36007, .arr 1 3 k_ (Q72 a_p1))], []⟩ : St)) (show (Q76 a_p1) = (Q56 a_p1).length from (len_app _ _))))) ?_
          obtain ⟨hc27, h⟩ := chk_some h
          refine rgs [] [] (⟨[(2, (.ptr 2 0)), (5, (.vpt 5 64 0 0)), (6, (.vpt 6 64 0 0)), (7, (.vsl 36007 (Q56 a_p1).length)), (8, (.vsub 25 [a_p1].length 0 (0 + ((Q61 a_p1)).toNat)))], [(2, .row 30 (Q44 a_g)), (5, .arr 1 68 64 (Q45 a_p1)), (6, .arr 1 69 64 (Q74 l10)), (25, .arr 1 3 ([a_p1].length) (Q47 a_p1)), (36007, .arr 1 3 ((Q56 a_p1).length) (Q72 a_p1))], []⟩ : St) [(0 ≤ (Q61 a_p1) ∧ 0 + ((Q61 a_p1)).toNat ≤ [a_p1].length)] hn mix (no_hand hΓ) (by kernel_rfl) ⟨hc27, trivial⟩ ?_
          refine awp_le (Le.trans (Le.trans (le_trunc (t := 8) (r := 25) (k := (0 + ((Q61 a_p1)).toNat)) rfl rfl hc27.2 (by kernel_rfl) (.row (by kernel_rfl) (.arr (fun _ => by kernel_rfl) (.arr (fun _ => by kernel_rfl) (.arr (fun _ => by kernel_rfl) (.arr (fun _ => by kernel_rfl) .nil))))) (by rw [hΓ]; rfl)) (le_eq (st' := (⟨(Q86 a_p1), [(2, .row 30 (Q44 a_g)), (5, .arr 1 68 64 (Q45 a_p1)), (6, .arr 1 69 64 (Q74 l10)), (25, .arr 1 3 (0 + ((Q61 a_p1)).toNat) (Q47 a_p1)), (36007, .arr 1 3 ((Q56 a_p1).length) (Q72 a_p1))], []⟩ : St)) (by kernel_rfl))) (Le.trans (le_of (st' := (⟨(Q86 a_p1), [(2, .row 30 (Q44 a_g)), (5, .arr 1 68 64 (Q45 a_p1)), (6, .arr 1 69 64 (Q74 l10)), (25, .arr 1 3 (0 + ((Q61 a_p1)).toNat) (fun i => eI64 ((Q84 a_p1).getD i (0 : Int)))), (36007, .arr 1 3 ((Q56 a_p1).length) (Q72 a_p1))], []⟩ : St)) (TmpsLe.refl _) (.same (.same (.same (.arr (take_le (e := eI64) (d := (0 : Int))) (.same .nil)))))) (le_eq (congrArg (fun k_ : Nat => (⟨[(2, (.ptr 2 0)), (5, (.vpt 5 64 0 0)), (6, (.vpt 6 64 0 0)), (7, (.vsl 36007 (Q56 a_p1).length)), (8, (.vsl 25 k_))], [(2, .row 30 (Q44 a_g)), (5, .arr 1 68 64 (Q45 a_p1)), (6, .arr 1 69 64 (Q74 l10)), (25, .arr 1 3 k_ (fun i => eI64 ((Q84 a_p1).getD i (0 : Int)))), (36007, .arr 1 3 ((Q56 a_p1).length) (Q72 a_p1))], []⟩ : St)) (show (0 + ((Q61 a_p1)).toNat) = (Q84 a_p1).length from take_len hc27.2))))) ?_
          refine awp_seq ?_
          refine rgs0 (⟨[(2, (.ptr 2 0)), (5, (.vpt 5 64 0 0)), (6, (.vpt 6 64 0 0)), (7, (.vsl 36007 (Q56 a_p1).length)), (8, (.vsl 25 (Q84 a_p1).length)), (78, (.bool (decide (((0 : Int) : Int) < ((Q84 a_p1).length : Int)))))], [(2, .row 30 (Q44 a_g)), (5, .arr 1 68 64 (Q45 a_p1)), (6, .arr 1 69 64 (Q74 l10)), (25, .arr 1 3 ((Q84 a_p1).length) (fun i => eI64 ((Q84 a_p1).getD i (0 : Int)))), (36007, .arr 1 3 ((Q56 a_p1).length) (Q72 a_p1))], []⟩ : St) hn mix (no_hand hΓ) (by kernel_rfl) ?_
          refine awp_cond (decide (((0 : Int) : Int) < ((Q84 a_p1).length : Int))) (by kernel_rfl) (fun hb => ?_) (fun hb => ?_)
          · replace h := cond_t hb h
            clear hb
            refine awp_goto ?_
            refine then_goto ?_
            obtain rfl := Option.some.inj h
            exact ⟨rfl, rfl, le_restrict_eq [2, 5, 6, 7, 8] [2, 5, 6, 25, 36007] (by kernel_rfl) (no_hand hΓ)⟩
          · replace h := cond_f hb h
            clear hb
            refine awp_skip ?_
            refine then_normal ?_
            obtain ⟨x28, hx28, h⟩ := bind_some h
            obtain ⟨hc29, h⟩ := chk_some h
            refine rgs [⟨[(36007, 34000)], [], (.tuple []), [(34000, .arr 1 3 x28.length (Q81 x28))]⟩] [] (⟨[(7, (.vsl 36007 (Q56 a_p1).length))], [(36007, .arr 1 3 x28.length (Q81 x28))], []⟩ : St) [(Spec Try.prog 34 [(.vsl 34000 (Q56 a_p1).length)] [(34000, .arr 1 3 ((Q56 a_p1).length) (Q72 a_p1))] (.tuple []) [(34000, .arr 1 3 x28.length (Q81 x28))])] hn mix (no_hand hΓ) (by kernel_rfl) ⟨(ok_slices_Reverse_int_int (Q56 a_p1) x28 hx28), trivial⟩ ?_
            refine awp_le (le_eq (congrArg (fun k_ : Nat => (⟨[(7, (.vsl 36007 k_))], [(36007, .arr 1 3 x28.length (Q81 x28))], []⟩ : St)) (show (Q56 a_p1).length = x28.length from hc29))) ?_
            refine rgs0 (⟨[(4, (.vsl 36007 x28.length))], [(36007, .arr 1 3 x28.length (Q81 x28))], []⟩ : St) hn mix (no_hand hΓ) (by kernel_rfl) ?_
            refine awp_le (Le.trans (le_freeze (nm := 36007) (sz := 1) (n := x28.length) (e := 3) (f := (Q81 x28)) (g := (Q81 x28)) rfl ⟨rfl, trivial⟩ (fun _ _ => rfl) (by rw [hΓ]; rfl)) (le_eq (st' := (⟨[(4, (AV.list 1 eI64 (0 : Int) x28 (.own 36007)))], [(36007, .tok 1 3 x28.length)], []⟩ : St)) (by kernel_rfl))) ?_
            refine awp_ret ?_
            obtain rfl := Option.some.inj h
            exact ⟨(by intro l hh; cases hh), rfl, ⟨.inl rfl, [(36007, 20000)], by kernel_rfl⟩⟩
        · rintro e st' ⟨rfl, hl30⟩
          refine block_goto ?_
          refine then_goto ?_
          obtain rfl := Option.some.inj h
          exact ⟨rfl, rfl, Le.trans hl30 (Le.refl _ _)⟩
  · clear h hx54
    rintro ⟨l1, l2, l3, l4⟩ y rest hf h
    obtain rfl := Option.some.inj hf
    clear hf
    unfold m_graph_Order_F3 at h
    refine awp_seq ?_
    refine awp_skip ?_
    refine then_normal ?_
    obtain ⟨hc31, h⟩ := chk_some h
    refine rgs [] [] (⟨(Q65 l4 l3), [(2, .row 30 (Q44 a_g)), (5, .arr 1 68 64 (Q53 l1)), (6, .arr 1 69 64 (fun i => eI64 (l2.getD i (0 : Int)))), (25, .arr 1 3 l3.length (Q50 l3)), (36007, .arr 1 3 l4.length (Q52 l4))], []⟩ : St) [(InB (Q63 l3) l3.length), (l3.length = l3.length)] hn mix (no_hand hΓ) (by kernel_rfl) ⟨hc31, rfl, trivial⟩ ?_
    refine awp_seq ?_
    refine awp_block ?_
    refine awp_le (st' := (fun (l32 : List (Int)) => (⟨(Q65 l4 l3), (Q62 a_g l1 l32 l3 l4), []⟩ : St)) l2) (Le.refl _ _) ?_
    obtain ⟨x47, hx47, h⟩ := bind_some h
    refine awp_loop (fun (l32 : List (Int)) => (⟨(Q65 l4 l3), (Q62 a_g l1 l32 l3 l4), []⟩ : St)) _ (fun (x_ : (List (Int) ⊕ (List (Bool) × List (Int) × List (Int)))) (e : Exit) (st : St) => match x_ with | (.inl l33) => e = (.exit 0) ∧ Le Γ st (⟨(Q65 l4 l3), [(2, .row 30 (Q44 a_g)), (5, .arr 1 68 64 (Q53 l1)), (6, .arr 1 69 64 (Q75 l33)), (25, .arr 1 3 l3.length (Q50 l3)), (36007, .arr 1 3 l4.length (Q52 l4))], []⟩ : St) | (.inr (l34, l35, l36)) => e = (.goto 0) ∧ Le Γ st (⟨[(2, (.ptr 2 0)), (5, (.vpt 5 64 0 0)), (6, (.vpt 6 64 0 0)), (7, (Q89 l4)), (8, (.vsl 25 l36.length))], [(2, .row 30 (Q44 a_g)), (5, .arr 1 68 64 (fun i => eB (l34.getD i false))), (6, .arr 1 69 64 (fun i => eI64 (l35.getD i (0 : Int)))), (25, .arr 1 3 l36.length (fun i => eI64 (l36.getD i (0 : Int)))), (36007, .arr 1 3 l4.length (Q52 l4))], []⟩ : St)) ?_ hx47 ?_
    · intro l32 y h
      unfold m_graph_Order_L2 at h
      refine awp_seq ?_
      obtain ⟨hc37, h⟩ := chk_some h
      obtain ⟨hc38, h⟩ := chk_some h
      refine rgs [] [] (⟨[(2, (.ptr 2 0)), (5, (.vpt 5 64 0 0)), (6, (.vpt 6 64 0 0)), (7, (Q89 l4)), (8, (.vsl 25 l3.length)), (9, (.int .i64 (Q43 l3))), (41, (.bool (decide (((l32.getD ((Q43 l3)).toNat (0 : Int)) : Int) < ((a_g.Succ.getD ((Q43 l3)).toNat []).length : Int)))))], (Q62 a_g l1 l32 l3 l4), []⟩ : St) [(InB (Q43 l3) 64), (64 = 64), (InB (Q43 l3) a_g.Succ.length)] hn mix (no_hand hΓ) (by kernel_rfl) ⟨hc37, rfl, hc38, trivial⟩ ?_
      refine awp_cond (decide (((l32.getD ((Q43 l3)).toNat (0 : Int)) : Int) < ((a_g.Succ.getD ((Q43 l3)).toNat []).length : Int))) (by kernel_rfl) (fun hb => ?_) (fun hb => ?_)
      · replace h := cond_t hb h
        clear hb
        refine awp_skip ?_
        refine then_normal ?_
        refine awp_block ?_
        obtain ⟨hc39, h⟩ := chk_some h
        obtain ⟨hc40, h⟩ := chk_some h
        obtain ⟨hc41, h⟩ := chk_some h
        refine rgs [] [] (⟨(Q68 l4 l3 a_g l32), (Q62 a_g l1 l32 l3 l4), []⟩ : St) [(InB (Q43 l3) a_g.Succ.length), (InB (Q43 l3) 64), (64 = 64), (InB (l32.getD ((Q43 l3)).toNat (0 : Int)) (a_g.Succ.getD ((Q43 l3)).toNat []).length)] hn mix (no_hand hΓ) (by kernel_rfl) ⟨hc39, hc40, rfl, hc41, trivial⟩ ?_
        obtain ⟨hc42, h⟩ := chk_some h
        obtain ⟨hc43, h⟩ := chk_some h
        refine rgs [] [] (⟨(Q68 l4 l3 a_g l32), [(2, .row 30 (Q44 a_g)), (5, .arr 1 68 64 (Q53 l1)), (6, .arr 1 69 64 (fun i_ => AV.eraseAll Q51 ((putF (fun i => eI64 (l32.getD i (0 : Int))) ((Q43 l3)).toNat 0 [(.int .i64 (w64 ((l32.getD ((Q43 l3)).toNat (0 : Int)) + (1 : Int))))]) i_))), (25, .arr 1 3 l3.length (Q50 l3)), (36007, .arr 1 3 l4.length (Q52 l4))], []⟩ : St) [(InB (Q43 l3) 64), (64 = 64), (InB (Q43 l3) 64), (64 = 64)] hn mix (no_hand hΓ) (by kernel_rfl) ⟨hc42, rfl, hc43, rfl, trivial⟩ ?_
        refine awp_le (le_of (st' := (⟨(Q68 l4 l3 a_g l32), [(2, .row 30 (Q44 a_g)), (5, .arr 1 68 64 (Q53 l1)), (6, .arr 1 69 64 (Q58 l32 l3)), (25, .arr 1 3 l3.length (Q50 l3)), (36007, .arr 1 3 l4.length (Q52 l4))], []⟩ : St)) (TmpsLe.refl _) (.same (.same (.arr (leL_of_eq rfl (fun k_ hk_ => (congrArg (AV.eraseAll Q51) ((putF_setN (fun _ _ => rfl) (inB_lit hc43) rfl) k_ hk_)).trans rfl)) (.same (.same .nil)))))) ?_
        obtain ⟨hc44, h⟩ := chk_some h
        refine rgs [] [] (⟨[(2, (.ptr 2 0)), (5, (.vpt 5 64 0 0)), (6, (.vpt 6 64 0 0)), (7, (Q89 l4)), (8, (.vsl 25 l3.length)), (9, (.int .i64 (Q43 l3))), (10, (.int .i64 (Q55 a_g l3 l32))), (60, (.bool (!(l1.getD ((Q55 a_g l3 l32)).toNat false))))], [(2, .row 30 (Q44 a_g)), (5, .arr 1 68 64 (Q53 l1)), (6, .arr 1 69 64 (Q58 l32 l3)), (25, .arr 1 3 l3.length (Q50 l3)), (36007, .arr 1 3 l4.length (Q52 l4))], []⟩ : St) [(InB (Q55 a_g l3 l32) 64), (64 = 64)] hn mix (no_hand hΓ) (by kernel_rfl) ⟨hc44, rfl, trivial⟩ ?_
        refine awp_cond (!(l1.getD ((Q55 a_g l3 l32)).toNat false)) (by kernel_rfl) (fun hb => ?_) (fun hb => ?_)
        · replace h := cond_t hb h
          clear hb
          obtain ⟨hc45, h⟩ := chk_some h
          refine rgs [] [] (⟨[(2, (.ptr 2 0)), (5, (.vpt 5 64 0 0)), (6, (.vpt 6 64 0 0)), (7, (Q89 l4)), (8, (.vsl 25 l3.length)), (10, (.int .i64 (Q55 a_g l3 l32)))], [(2, .row 30 (Q44 a_g)), (5, .arr 1 68 64 (fun i_ => AV.eraseAll Q51 ((putF (Q53 l1) ((Q55 a_g l3 l32)).toNat 0 [(.bool true)]) i_))), (6, .arr 1 69 64 (Q58 l32 l3)), (25, .arr 1 3 l3.length (Q50 l3)), (36007, .arr 1 3 l4.length (Q52 l4))], []⟩ : St) [(InB (Q55 a_g l3 l32) 64), (64 = 64)] hn mix (no_hand hΓ) (by kernel_rfl) ⟨hc45, rfl, trivial⟩ ?_
          refine awp_le (le_of (st' := (⟨[(2, (.ptr 2 0)), (5, (.vpt 5 64 0 0)), (6, (.vpt 6 64 0 0)), (7, (Q89 l4)), (8, (.vsl 25 l3.length)), (10, (.int .i64 (Q55 a_g l3 l32)))], [(2, .row 30 (Q44 a_g)), (5, .arr 1 68 64 (Q78 l1 a_g l3 l32)), (6, .arr 1 69 64 (Q58 l32 l3)), (25, .arr 1 3 l3.length (Q50 l3)), (36007, .arr 1 3 l4.length (Q52 l4))], []⟩ : St)) (TmpsLe.refl _) (.same (.arr (leL_of_eq rfl (fun k_ hk_ => (congrArg (AV.eraseAll Q51) ((putF_setN (fun _ _ => rfl) (inB_lit hc45) rfl) k_ hk_)).trans rfl)) (.same (.same (.same .nil)))))) ?_
          obtain ⟨hc46, h⟩ := chk_some h
          refine rgs [] [(65, (AV.list 1 eI64 (0 : Int) (Q70 a_g l3 l32) .exact))] (⟨[(2, (.ptr 2 0)), (5, (.vpt 5 64 0 0)), (6, (.vpt 6 64 0 0)), (7, (Q89 l4)), (8, (.vsl 25 (l3.length + (Q70 a_g l3 l32).length)))], [(2, .row 30 (Q44 a_g)), (5, .arr 1 68 64 (Q78 l1 a_g l3 l32)), (6, .arr 1 69 64 (Q58 l32 l3)), (25, .arr 1 3 (l3.length + (Q70 a_g l3 l32).length) (fun i_ => AV.eraseAll Q51 ((appF l3.length (Q50 l3) (fun i => eI64 ((Q70 a_g l3 l32).getD i (0 : Int)))) i_))), (36007, .arr 1 3 l4.length (Q52 l4))], []⟩ : St) [(AVle (.slice 1 1 (fun i => ([[(.int .i64 (Q55 a_g l3 l32))]] : List (List AV)).getD i []) .exact) (AV.list 1 eI64 (0 : Int) (Q70 a_g l3 l32) .exact)), (l3.length = l3.length), (l3.length + (Q70 a_g l3 l32).length ≤ room)] hn mix (no_hand hΓ) (by kernel_rfl) ⟨(av_lit rfl (fun i hi => map_get (e := eI64) (d := (0 : Int)) (Q70 a_g l3 l32) i hi)), rfl, hc46, trivial⟩ ?_
          refine awp_le (Le.trans (le_of (st' := (⟨[(2, (.ptr 2 0)), (5, (.vpt 5 64 0 0)), (6, (.vpt 6 64 0 0)), (7, (Q89 l4)), (8, (.vsl 25 (l3.length + (Q70 a_g l3 l32).length)))], [(2, .row 30 (Q44 a_g)), (5, .arr 1 68 64 (Q78 l1 a_g l3 l32)), (6, .arr 1 69 64 (Q58 l32 l3)), (25, .arr 1 3 (l3.length + (Q70 a_g l3 l32).length) (fun i => eI64 ((l3 ++ (Q70 a_g l3 l32)).getD i (0 : Int)))), (36007, .arr 1 3 l4.length (Q52 l4))], []⟩ : St)) (TmpsLe.refl _) (.same (.same (.same (.arr (leL_of_eq (len_app _ _) (fun k_ hk_ => (congrArg (AV.eraseAll Q51) ((appF_app (fun _ _ => rfl) (fun _ _ => rfl)) k_ hk_)).trans rfl)) (.same .nil)))))) (le_eq (congrArg (fun k_ : Nat => (⟨[(2, (.ptr 2 0)), (5, (.vpt 5 64 0 0)), (6, (.vpt 6 64 0 0)), (7, (Q89 l4)), (8, (.vsl 25 k_))], [(2, .row 30 (Q44 a_g)), (5, .arr 1 68 64 (Q78 l1 a_g l3 l32)), (6, .arr 1 69 64 (Q58 l32 l3)), (25, .arr 1 3 k_ (fun i => eI64 ((l3 ++ (Q70 a_g l3 l32)).getD i (0 : Int)))), (36007, .arr 1 3 l4.length (Q52 l4))], []⟩ : St)) (show (l3.length + (Q70 a_g l3 l32).length) = (l3 ++ (Q70 a_g l3 l32)).length from (len_app _ _))))) ?_
          refine awp_goto ?_
          refine block_goto ?_
          obtain rfl := Option.some.inj h
          exact ⟨(by intro hh; cases hh), rfl, Le.refl _ _⟩
        · replace h := cond_f hb h
          clear hb
          refine awp_skip ?_
          refine block_normal ?_
          obtain rfl := Option.some.inj h
          exact ⟨rfl, le_restrict_eq [2, 5, 6, 7, 8, 9] [2, 5, 6, 25, 36007] (by kernel_rfl) (no_hand hΓ)⟩
      · replace h := cond_f hb h
        clear hb
        refine awp_exit ?_
        refine then_exit ?_
        obtain rfl := Option.some.inj h
        exact ⟨(by intro hh; cases hh), rfl, le_restrict_eq [2, 5, 6, 7, 8, 9] [2, 5, 6, 25, 36007] (by kernel_rfl) (no_hand hΓ)⟩
    · clear hx47
      rcases x47 with l33 | ⟨l34, l35, l36⟩
      · rintro e st' ⟨rfl, hl48⟩
        refine block_here ?_
        refine then_normal ?_
        refine awp_le hl48 ?_
        obtain ⟨hc49, h⟩ := chk_some h
        refine rgs [] [(69, (AV.list 1 eI64 (0 : Int) (Q85 l3) .exact))] (⟨[(2, (.ptr 2 0)), (5, (.vpt 5 64 0 0)), (6, (.vpt 6 64 0 0)), (7, (.vsl 36007 (l4.length + (Q85 l3).length))), (8, (.vsl 25 l3.length))], [(2, .row 30 (Q44 a_g)), (5, .arr 1 68 64 (Q53 l1)), (6, .arr 1 69 64 (Q75 l33)), (25, .arr 1 3 l3.length (Q50 l3)), (36007, .arr 1 3 (l4.length + (Q85 l3).length) (fun i_ => AV.eraseAll Q51 ((appF l4.length (Q52 l4) (fun i => eI64 ((Q85 l3).getD i (0 : Int)))) i_)))], []⟩ : St) [(AVle (.slice 1 1 (fun i => ([[(.int .i64 (Q43 l3))]] : List (List AV)).getD i []) .exact) (AV.list 1 eI64 (0 : Int) (Q85 l3) .exact)), (l4.length = l4.length), (l4.length + (Q85 l3).length ≤ room)] hn mix (no_hand hΓ) (by kernel_rfl) ⟨(av_lit rfl (fun i hi => map_get (e := eI64) (d := (0 : Int)) (Q85 l3) i hi)), rfl, hc49, trivial⟩ ?_
        refine awp_le (Le.trans (le_of (st' := (⟨[(2, (.ptr 2 0)), (5, (.vpt 5 64 0 0)), (6, (.vpt 6 64 0 0)), (7, (.vsl 36007 (l4.length + (Q85 l3).length))), (8, (.vsl 25 l3.length))], [(2, .row 30 (Q44 a_g)), (5, .arr 1 68 64 (Q53 l1)), (6, .arr 1 69 64 (Q75 l33)), (25, .arr 1 3 l3.length (Q50 l3)), (36007, .arr 1 3 (l4.length + (Q85 l3).length) (Q71 l4 l3))], []⟩ : St)) (TmpsLe.refl _) (.same (.same (.same (.same (.arr (leL_of_eq (len_app _ _) (fun k_ hk_ => (congrArg (AV.eraseAll Q51) ((appF_app (fun _ _ => rfl) (fun _ _ => rfl)) k_ hk_)).trans rfl)) .nil)))))) (le_eq (congrArg (fun k_ : Nat => (⟨[(2, (.ptr 2 0)), (5, (.vpt 5 64 0 0)), (6, (.vpt 6 64 0 0)), (7, (.vsl 36007 k_)), (8, (.vsl 25 l3.length))], [(2, .row 30 (Q44 a_g)), (5, .arr 1 68 64 (Q53 l1)), (6, .arr 1 69 64 (Q75 l33)), (25, .arr 1 3 l3.length (Q50 l3)), (36007, .arr 1 3 k_ (Q71 l4 l3))], []⟩ : St)) (show (l4.length + (Q85 l3).length) = (Q60 l4 l3).length from (len_app _ _))))) ?_
        obtain ⟨hc50, h⟩ := chk_some h
        refine rgs [] [] (⟨[(2, (.ptr 2 0)), (5, (.vpt 5 64 0 0)), (6, (.vpt 6 64 0 0)), (7, (.vsl 36007 (Q60 l4 l3).length)), (8, (.vsub 25 l3.length 0 (0 + ((Q63 l3)).toNat)))], [(2, .row 30 (Q44 a_g)), (5, .arr 1 68 64 (Q53 l1)), (6, .arr 1 69 64 (Q75 l33)), (25, .arr 1 3 l3.length (Q50 l3)), (36007, .arr 1 3 ((Q60 l4 l3).length) (Q71 l4 l3))], []⟩ : St) [(0 ≤ (Q63 l3) ∧ 0 + ((Q63 l3)).toNat ≤ l3.length)] hn mix (no_hand hΓ) (by kernel_rfl) ⟨hc50, trivial⟩ ?_
        refine awp_le (Le.trans (Le.trans (le_trunc (t := 8) (r := 25) (k := (0 + ((Q63 l3)).toNat)) rfl rfl hc50.2 (by kernel_rfl) (.row (by kernel_rfl) (.arr (fun _ => by kernel_rfl) (.arr (fun _ => by kernel_rfl) (.arr (fun _ => by kernel_rfl) (.arr (fun _ => by kernel_rfl) .nil))))) (by rw [hΓ]; rfl)) (le_eq (st' := (⟨[(2, (.ptr 2 0)), (5, (.vpt 5 64 0 0)), (6, (.vpt 6 64 0 0)), (7, (.vsl 36007 (Q60 l4 l3).length)), (8, (.vsl 25 (0 + ((Q63 l3)).toNat)))], [(2, .row 30 (Q44 a_g)), (5, .arr 1 68 64 (Q53 l1)), (6, .arr 1 69 64 (Q75 l33)), (25, .arr 1 3 (0 + ((Q63 l3)).toNat) (Q50 l3)), (36007, .arr 1 3 ((Q60 l4 l3).length) (Q71 l4 l3))], []⟩ : St)) (by kernel_rfl))) (Le.trans (le_of (st' := (⟨[(2, (.ptr 2 0)), (5, (.vpt 5 64 0 0)), (6, (.vpt 6 64 0 0)), (7, (.vsl 36007 (Q60 l4 l3).length)), (8, (.vsl 25 (0 + ((Q63 l3)).toNat)))], [(2, .row 30 (Q44 a_g)), (5, .arr 1 68 64 (Q53 l1)), (6, .arr 1 69 64 (Q75 l33)), (25, .arr 1 3 (0 + ((Q63 l3)).toNat) (fun i => eI64 ((Q87 l3).getD i (0 : Int)))), (36007, .arr 1 3 ((Q60 l4 l3).length) (Q71 l4 l3))], []⟩ : St)) (TmpsLe.refl _) (.same (.same (.same (.arr (take_le (e := eI64) (d := (0 : Int))) (.same .nil)))))) (le_eq (congrArg (fun k_ : Nat => (⟨[(2, (.ptr 2 0)), (5, (.vpt 5 64 0 0)), (6, (.vpt 6 64 0 0)), (7, (.vsl 36007 (Q60 l4 l3).length)), (8, (.vsl 25 k_))], [(2, .row 30 (Q44 a_g)), (5, .arr 1 68 64 (Q53 l1)), (6, .arr 1 69 64 (Q75 l33)), (25, .arr 1 3 k_ (fun i => eI64 ((Q87 l3).getD i (0 : Int)))), (36007, .arr 1 3 ((Q60 l4 l3).length) (Q71 l4 l3))], []⟩ : St)) (show (0 + ((Q63 l3)).toNat) = (Q87 l3).length from take_len hc50.2))))) ?_
        refine awp_seq ?_
        refine rgs0 (⟨[(2, (.ptr 2 0)), (5, (.vpt 5 64 0 0)), (6, (.vpt 6 64 0 0)), (7, (.vsl 36007 (Q60 l4 l3).length)), (8, (.vsl 25 (Q87 l3).length)), (78, (.bool (decide (((0 : Int) : Int) < ((Q87 l3).length : Int)))))], [(2, .row 30 (Q44 a_g)), (5, .arr 1 68 64 (Q53 l1)), (6, .arr 1 69 64 (Q75 l33)), (25, .arr 1 3 ((Q87 l3).length) (fun i => eI64 ((Q87 l3).getD i (0 : Int)))), (36007, .arr 1 3 ((Q60 l4 l3).length) (Q71 l4 l3))], []⟩ : St) hn mix (no_hand hΓ) (by kernel_rfl) ?_
        refine awp_cond (decide (((0 : Int) : Int) < ((Q87 l3).length : Int))) (by kernel_rfl) (fun hb => ?_) (fun hb => ?_)
        · replace h := cond_t hb h
          clear hb
          refine awp_goto ?_
          refine then_goto ?_
          obtain rfl := Option.some.inj h
          exact ⟨rfl, rfl, le_restrict_eq [2, 5, 6, 7, 8] [2, 5, 6, 25, 36007] (by kernel_rfl) (no_hand hΓ)⟩
        · replace h := cond_f hb h
          clear hb
          refine awp_skip ?_
          refine then_normal ?_
          obtain ⟨x51, hx51, h⟩ := bind_some h
          obtain ⟨hc52, h⟩ := chk_some h
          refine rgs [⟨[(36007, 34000)], [], (.tuple []), [(34000, .arr 1 3 x51.length (Q82 x51))]⟩] [] (⟨[(7, (.vsl 36007 (Q60 l4 l3).length))], [(36007, .arr 1 3 x51.length (Q82 x51))], []⟩ : St) [(Spec Try.prog 34 [(.vsl 34000 (Q60 l4 l3).length)] [(34000, .arr 1 3 ((Q60 l4 l3).length) (Q71 l4 l3))] (.tuple []) [(34000, .arr 1 3 x51.length (Q82 x51))])] hn mix (no_hand hΓ) (by kernel_rfl) ⟨(ok_slices_Reverse_int_int (Q60 l4 l3) x51 hx51), trivial⟩ ?_
          refine awp_le (le_eq (congrArg (fun k_ : Nat => (⟨[(7, (.vsl 36007 k_))], [(36007, .arr 1 3 x51.length (Q82 x51))], []⟩ : St)) (show (Q60 l4 l3).length = x51.length from hc52))) ?_
          refine rgs0 (⟨[(4, (.vsl 36007 x51.length))], [(36007, .arr 1 3 x51.length (Q82 x51))], []⟩ : St) hn mix (no_hand hΓ) (by kernel_rfl) ?_
          refine awp_le (Le.trans (le_freeze (nm := 36007) (sz := 1) (n := x51.length) (e := 3) (f := (Q82 x51)) (g := (Q82 x51)) rfl ⟨rfl, trivial⟩ (fun _ _ => rfl) (by rw [hΓ]; rfl)) (le_eq (st' := (⟨[(4, (AV.list 1 eI64 (0 : Int) x51 (.own 36007)))], [(36007, .tok 1 3 x51.length)], []⟩ : St)) (by kernel_rfl))) ?_
          refine awp_ret ?_
          obtain rfl := Option.some.inj h
          exact ⟨(by intro l hh; cases hh), rfl, ⟨.inl rfl, [(36007, 20000)], by kernel_rfl⟩⟩
      · rintro e st' ⟨rfl, hl53⟩
        refine block_goto ?_
        refine then_goto ?_
        obtain rfl := Option.some.inj h
        exact ⟨rfl, rfl, Le.trans hl53 (Le.refl _ _)⟩
  · clear hx54
    rintro e st' ⟨rfl, hk⟩
    obtain rfl := Option.some.inj h
    exact hk

noncomputable def Q97 (x1 : (TGraph × Int)) := (((x1.2 : Int) == (0 : Int)) == true)
noncomputable def Q98 := ([([(1 : Int)] : List (Int))] : List (List (Int)))
noncomputable def Q90 (x1 : (TGraph × Int)) (x2 : List (Int)) := (bif (bif (bif ((x1.2 : Int) == (0 : Int)) then (((x1.1.Pred.length : Int) : Int) == (4 : Int)) else false) then ((((x1.1.Pred.getD ((3 : Int)).toNat []).length : Int) : Int) == (2 : Int)) else false) then (((x2.length : Int) : Int) == (4 : Int)) else false)
noncomputable def Q91 (x2 : List (Int)) := (((x2.getD ((0 : Int)).toNat (0 : Int)) : Int) == (0 : Int))
noncomputable def Q102 (x1 : (TGraph × Int)) (x2 : List (Int)) := ((bif (Q90 x1 x2) then (Q91 x2) else false) == true)
noncomputable def Q93 (x2 : List (Int)) := (((x2.getD ((1 : Int)).toNat (0 : Int)) : Int) == (2 : Int))
noncomputable def Q95 (x2 : List (Int)) := (((x2.getD ((3 : Int)).toNat (0 : Int)) : Int) == (3 : Int))
noncomputable def Q99 : AV := (AV.list 1 eI64 (0 : Int) ([(3 : Int)] : List (Int)) .exact)
noncomputable def Q101 (x1 : (TGraph × Int)) (x2 : List (Int)) := (bif (bif (Q90 x1 x2) then (Q91 x2) else false) then (Q93 x2) else false)
noncomputable def Q100 (x1 : (TGraph × Int)) : List AV := [(AV.list 1 eLI64 [] x1.1.Succ .none), (AV.list 1 eLI64 [] x1.1.Pred .none)]
noncomputable def Q103 (x1 : (TGraph × Int)) (x2 : List (Int)) (x3 : (TGraph × Int)) := (bif (bif (Q101 x1 x2) then (Q95 x2) else false) then ((x3.2 : Int) == (5 : Int)) else false)
noncomputable def Q92 (x1 : (TGraph × Int)) := ((bif ((x1.2 : Int) == (0 : Int)) then (((x1.1.Pred.length : Int) : Int) == (4 : Int)) else false) == true)
noncomputable def Q96 := ([([(1 : Int), (2 : Int)] : List (Int)), ([(3 : Int)] : List (Int)), ([(3 : Int)] : List (Int)), ([] : List Int)] : List (List (Int)))
noncomputable def Q94 (x1 : (TGraph × Int)) := ((bif (bif ((x1.2 : Int) == (0 : Int)) then (((x1.1.Pred.length : Int) : Int) == (4 : Int)) else false) then ((((x1.1.Pred.getD ((3 : Int)).toNat []).length : Int) : Int) == (2 : Int)) else false) == true)
noncomputable def m_locksteplaw06_awake  : Option Bool :=
  ((m_graph_Make ([([(1 : Int), (2 : Int)] : List (Int)), ([(3 : Int)] : List (Int)), ([(3 : Int)] : List (Int)), ([] : List Int)] : List (List (Int)))).bind fun x1 => ((m_graph_Order x1.1 (0 : Int)).bind fun x2 => ((m_graph_Make ([([(1 : Int)] : List (Int))] : List (List (Int)))).bind fun x3 => (chk (((bif ((x1.2 : Int) == (0 : Int)) then (((x1.1.Pred.length : Int) : Int) == (4 : Int)) else false) == true) = true → (InB (3 : Int) x1.1.Pred.length)) (chk (((bif (bif (bif ((x1.2 : Int) == (0 : Int)) then (((x1.1.Pred.length : Int) : Int) == (4 : Int)) else false) then ((((x1.1.Pred.getD ((3 : Int)).toNat []).length : Int) : Int) == (2 : Int)) else false) then (((x2.length : Int) : Int) == (4 : Int)) else false) == true) = true → (InB (0 : Int) x2.length)) (chk (((bif (bif (bif (bif ((x1.2 : Int) == (0 : Int)) then (((x1.1.Pred.length : Int) : Int) == (4 : Int)) else false) then ((((x1.1.Pred.getD ((3 : Int)).toNat []).length : Int) : Int) == (2 : Int)) else false) then (((x2.length : Int) : Int) == (4 : Int)) else false) then (((x2.getD ((0 : Int)).toNat (0 : Int)) : Int) == (0 : Int)) else false) == true) = true → (InB (1 : Int) x2.length)) (chk (((bif (bif (bif (bif (bif ((x1.2 : Int) == (0 : Int)) then (((x1.1.Pred.length : Int) : Int) == (4 : Int)) else false) then ((((x1.1.Pred.getD ((3 : Int)).toNat []).length : Int) : Int) == (2 : Int)) else false) then (((x2.length : Int) : Int) == (4 : Int)) else false) then (((x2.getD ((0 : Int)).toNat (0 : Int)) : Int) == (0 : Int)) else false) then (((x2.getD ((1 : Int)).toNat (0 : Int)) : Int) == (2 : Int)) else false) == true) = true → (InB (3 : Int) x2.length)) ((bif ((bif (bif (bif (bif (bif (bif (bif ((x1.2 : Int) == (0 : Int)) then (((x1.1.Pred.length : Int) : Int) == (4 : Int)) else false) then ((((x1.1.Pred.getD ((3 : Int)).toNat []).length : Int) : Int) == (2 : Int)) else false) then (((x2.length : Int) : Int) == (4 : Int)) else false) then (((x2.getD ((0 : Int)).toNat (0 : Int)) : Int) == (0 : Int)) else false) then (((x2.getD ((1 : Int)).toNat (0 : Int)) : Int) == (2 : Int)) else false) then (((x2.getD ((3 : Int)).toNat (0 : Int)) : Int) == (3 : Int)) else false) then ((x3.2 : Int) == (5 : Int)) else false) == true) then m_graph_May x1.1 else some false).bind fun x8 => (some (bif (bif (bif (bif (bif (bif (bif (bif ((x1.2 : Int) == (0 : Int)) then (((x1.1.Pred.length : Int) : Int) == (4 : Int)) else false) then ((((x1.1.Pred.getD ((3 : Int)).toNat []).length : Int) : Int) == (2 : Int)) else false) then (((x2.length : Int) : Int) == (4 : Int)) else false) then (((x2.getD ((0 : Int)).toNat (0 : Int)) : Int) == (0 : Int)) else false) then (((x2.getD ((1 : Int)).toNat (0 : Int)) : Int) == (2 : Int)) else false) then (((x2.getD ((3 : Int)).toNat (0 : Int)) : Int) == (3 : Int)) else false) then ((x3.2 : Int) == (5 : Int)) else false) then x8 else false))))))))))
theorem ok_locksteplaw06_awake  (r : Bool) (h : m_locksteplaw06_awake = some r) : Spec Try.prog 9 [] [] (.bool r) [] := by
  refine spec_of_awp (fn := Try.f9) Try.func9 rfl rfl (by kernel_rfl) (fun Γ hn hΓ => ?_)
  have hn : Γ.n = 69 := hn
  unfold m_locksteplaw06_awake at h
  refine rgs0 (⟨[], [], []⟩ : St) hn mix (no_hand hΓ) (by kernel_rfl) ?_
  obtain ⟨x1, hx1, h⟩ := bind_some h
  refine rgs [⟨[], [], (.tuple [(.agg (eTGraph x1.1)), (.int .i64 x1.2)]), []⟩] [(7, (AV.list 1 eI64 (0 : Int) ([(1 : Int), (2 : Int)] : List (Int)) .exact)), (8, Q99), (9, Q99), (10, (AV.list 1 eLI64 [] Q96 .exact))] (⟨[(1, (.ptr 1 0)), (2, (.int .i64 x1.2))], [(1, .row 30 (Q100 x1))], []⟩ : St) [(AVle (.slice 1 2 (fun i => ([[(.int .i64 (1 : Int))], [(.int .i64 (2 : Int))]] : List (List AV)).getD i []) .exact) (AV.list 1 eI64 (0 : Int) ([(1 : Int), (2 : Int)] : List (Int)) .exact)), (AVle (.slice 1 1 (fun i => ([[(.int .i64 (3 : Int))]] : List (List AV)).getD i []) .exact) Q99), (AVle (.slice 1 1 (fun i => ([[(.int .i64 (3 : Int))]] : List (List AV)).getD i []) .exact) Q99), (AVle (.slice 1 4 (fun i => ([[(AV.list 1 eI64 (0 : Int) ([(1 : Int), (2 : Int)] : List (Int)) .none)], [(AV.list 1 eI64 (0 : Int) ([(3 : Int)] : List (Int)) .none)], [(AV.list 1 eI64 (0 : Int) ([(3 : Int)] : List (Int)) .none)], [(.slice 0 0 (fun _ => []) .none)]] : List (List AV)).getD i []) .exact) (AV.list 1 eLI64 [] Q96 .exact)), (Spec Try.prog 16 [(AV.list 1 eLI64 [] Q96 .none)] [] (.tuple [(.agg (eTGraph x1.1)), (.int .i64 x1.2)]) [])] hn mix (no_hand hΓ) (by kernel_rfl) ⟨(av_lit rfl (fun i hi => map_get (e := eI64) (d := (0 : Int)) ([(1 : Int), (2 : Int)] : List (Int)) i hi)), (av_lit rfl (fun i hi => map_get (e := eI64) (d := (0 : Int)) ([(3 : Int)] : List (Int)) i hi)), (av_lit rfl (fun i hi => map_get (e := eI64) (d := (0 : Int)) ([(3 : Int)] : List (Int)) i hi)), (av_litL (e := eLI64) (d := []) rfl (lit_cons (.cons (AVle.refl _) .nil) (lit_cons (.cons (AVle.refl _) .nil) (lit_cons (.cons (AVle.refl _) .nil) (lit_cons (.cons av_nil0 .nil) (lit_nil rfl))))) (fun _ => rfl)), (ok_graph_Make Q96 x1 hx1), trivial⟩ ?_
  obtain ⟨x2, hx2, h⟩ := bind_some h
  refine rgs [⟨[], [(20000, 15)], (AV.list 1 eI64 (0 : Int) x2 (.own 20000)), [(20000, .tok 1 3 x2.length)]⟩] [] (⟨[(1, (.ptr 1 0)), (2, (.int .i64 x1.2)), (3, (AV.list 1 eI64 (0 : Int) x2 (.own 15)))], [(1, .row 30 (Q100 x1)), (15, .tok 1 3 x2.length)], []⟩ : St) [(Spec Try.prog 20 [(.agg (eTGraph x1.1)), (.int .i64 (0 : Int))] [] (AV.list 1 eI64 (0 : Int) x2 (.own 20000)) [(20000, .tok 1 3 x2.length)])] hn mix (no_hand hΓ) (by kernel_rfl) ⟨(ok_graph_Order x1.1 (0 : Int) x2 hx2), trivial⟩ ?_
  obtain ⟨x3, hx3, h⟩ := bind_some h
  refine rgs [⟨[], [], (.tuple [(.agg (eTGraph x3.1)), (.int .i64 x3.2)]), []⟩] [(17, (AV.list 1 eI64 (0 : Int) ([(1 : Int)] : List (Int)) .exact)), (18, (AV.list 1 eLI64 [] Q98 .exact))] (⟨[(1, (.ptr 1 0)), (2, (.int .i64 x1.2)), (3, (AV.list 1 eI64 (0 : Int) x2 (.own 15))), (5, (.int .i64 x3.2))], [(1, .row 30 (Q100 x1)), (15, .tok 1 3 x2.length)], []⟩ : St) [(AVle (.slice 1 1 (fun i => ([[(.int .i64 (1 : Int))]] : List (List AV)).getD i []) .exact) (AV.list 1 eI64 (0 : Int) ([(1 : Int)] : List (Int)) .exact)), (AVle (.slice 1 1 (fun i => ([[(AV.list 1 eI64 (0 : Int) ([(1 : Int)] : List (Int)) .none)]] : List (List AV)).getD i []) .exact) (AV.list 1 eLI64 [] Q98 .exact)), (Spec Try.prog 16 [(AV.list 1 eLI64 [] Q98 .none)] [] (.tuple [(.agg (eTGraph x3.1)), (.int .i64 x3.2)]) [])] hn mix (no_hand hΓ) (by kernel_rfl) ⟨(av_lit rfl (fun i hi => map_get (e := eI64) (d := (0 : Int)) ([(1 : Int)] : List (Int)) i hi)), (av_lit rfl (fun i hi => map_get (e := eLI64) (d := []) Q98 i hi)), (ok_graph_Make Q98 x3 hx3), trivial⟩ ?_
  obtain ⟨hc4, h⟩ := chk_some h
  obtain ⟨hc5, h⟩ := chk_some h
  obtain ⟨hc6, h⟩ := chk_some h
  obtain ⟨hc7, h⟩ := chk_some h
  obtain ⟨x8, hx8, h⟩ := bind_some h
  refine rgs [⟨[], [], (.bool x8), []⟩] [] (⟨[(0, (.bool (bif (Q103 x1 x2 x3) then x8 else false)))], [], []⟩ : St) [((Q97 x1) = true → (Q97 x1) = true), ((Q97 x1) = true → (Q97 x1) = true), ((Q97 x1) = true → (Q97 x1) = true), (((x1.2 : Int) == (0 : Int)) = true → (Q97 x1) = true), ((Q92 x1) = true → (Q92 x1) = true), ((Q92 x1) = true → (Q92 x1) = true), ((Q92 x1) = true → (InB (3 : Int) x1.1.Pred.length)), ((Q92 x1) = true → (Q92 x1) = true), ((Q92 x1) = true → (Q92 x1) = true), ((Q92 x1) = true → (Q92 x1) = true), ((bif ((x1.2 : Int) == (0 : Int)) then (((x1.1.Pred.length : Int) : Int) == (4 : Int)) else false) = true → (Q92 x1) = true), ((Q94 x1) = true → (Q94 x1) = true), ((Q94 x1) = true → (Q94 x1) = true), ((bif (bif ((x1.2 : Int) == (0 : Int)) then (((x1.1.Pred.length : Int) : Int) == (4 : Int)) else false) then ((((x1.1.Pred.getD ((3 : Int)).toNat []).length : Int) : Int) == (2 : Int)) else false) = true → (Q94 x1) = true), (((Q90 x1 x2) == true) = true → ((Q90 x1 x2) == true) = true), (((Q90 x1 x2) == true) = true → (InB (0 : Int) x2.length)), (((Q90 x1 x2) == true) = true → ((Q90 x1 x2) == true) = true), (((Q90 x1 x2) == true) = true → ((Q90 x1 x2) == true) = true), ((Q90 x1 x2) = true → ((Q90 x1 x2) == true) = true), ((Q102 x1 x2) = true → (Q102 x1 x2) = true), ((Q102 x1 x2) = true → (InB (1 : Int) x2.length)), ((Q102 x1 x2) = true → (Q102 x1 x2) = true), ((Q102 x1 x2) = true → (Q102 x1 x2) = true), ((bif (Q90 x1 x2) then (Q91 x2) else false) = true → (Q102 x1 x2) = true), (((Q101 x1 x2) == true) = true → ((Q101 x1 x2) == true) = true), (((Q101 x1 x2) == true) = true → (InB (3 : Int) x2.length)), (((Q101 x1 x2) == true) = true → ((Q101 x1 x2) == true) = true), (((Q101 x1 x2) == true) = true → ((Q101 x1 x2) == true) = true), ((Q101 x1 x2) = true → ((Q101 x1 x2) == true) = true), (((bif (Q101 x1 x2) then (Q95 x2) else false) == true) = true → ((bif (Q101 x1 x2) then (Q95 x2) else false) == true) = true), ((bif (Q101 x1 x2) then (Q95 x2) else false) = true → ((bif (Q101 x1 x2) then (Q95 x2) else false) == true) = true), (((Q103 x1 x2 x3) == true) = true → ((Q103 x1 x2 x3) == true) = true), (((Q103 x1 x2 x3) == true) = true → (Spec Try.prog 14 [(.agg (eTGraph x1.1))] [] (.bool x8) [])), ((Q103 x1 x2 x3) = true → ((Q103 x1 x2 x3) == true) = true)] hn mix (no_hand hΓ) (by kernel_rfl) ⟨(fun hg => hg), (fun hg => hg), (fun hg => hg), gT, (fun hg => hg), (fun hg => hg), (fun hg => (hc4 hg)), (fun hg => hg), (fun hg => hg), (fun hg => hg), gT, (fun hg => hg), (fun hg => hg), gT, (fun hg => hg), (fun hg => (hc5 hg)), (fun hg => hg), (fun hg => hg), gT, (fun hg => hg), (fun hg => (hc6 hg)), (fun hg => hg), (fun hg => hg), gT, (fun hg => hg), (fun hg => (hc7 hg)), (fun hg => hg), (fun hg => hg), gT, (fun hg => hg), gT, (fun hg => hg), (fun hg => (ok_graph_May x1.1 x8 (cond_t hg hx8))), gT, trivial⟩ ?_
  refine awp_ret ?_
  obtain rfl := Option.some.inj h
  exact ⟨.inl rfl, [], by kernel_rfl⟩

noncomputable def m_lockstepref04_Small_L1 (a_f : TFunc) (i2 : Int) : (Int × Int) → Option (LR (Int × Int) Int) :=
  fun ((i5, i6) : (Int × Int)) => (chk (InB i2 a_f.Blocks.length) (bif (bif (decide ((i6 : Int) < (((a_f.Blocks.getD (i2).toNat (default : TBlock)).Phis).length : Int))) then (decide ((i5 : Int) ≤ (20000 : Int))) else false) then (chk (InB i2 a_f.Blocks.length) (chk (InB i6 ((a_f.Blocks.getD (i2).toNat (default : TBlock)).Phis).length) (chk (InB i2 a_f.Blocks.length) (chk (InB i6 ((a_f.Blocks.getD (i2).toNat (default : TBlock)).Phis).length) (some (.next ((w64 ((w64 ((w64 (i5 + (1 : Int))) + (((((a_f.Blocks.getD (i2).toNat (default : TBlock)).Phis).getD (i6).toNat (default : TPhi)).From).length : Int))) + (((((a_f.Blocks.getD (i2).toNat (default : TBlock)).Phis).getD (i6).toNat (default : TPhi)).Args).length : Int))), (w64 (i6 + (1 : Int)))))))))) else (some (.done i5))))
noncomputable def m_lockstepref04_Small_L2 (a_f : TFunc) (i2 : Int) : (Int × Int) → Option (LR (Int × Int) Int) :=
  fun ((i15, i16) : (Int × Int)) => (chk (InB i2 a_f.Blocks.length) (bif (bif (decide ((i16 : Int) < (((a_f.Blocks.getD (i2).toNat (default : TBlock)).Ops).length : Int))) then (decide ((i15 : Int) ≤ (20000 : Int))) else false) then (chk (InB i2 a_f.Blocks.length) (chk (InB i16 ((a_f.Blocks.getD (i2).toNat (default : TBlock)).Ops).length) (some (.next ((w64 ((w64 (i15 + (1 : Int))) + (((((a_f.Blocks.getD (i2).toNat (default : TBlock)).Ops).getD (i16).toNat (default : TOp)).Args).length : Int))), (w64 (i16 + (1 : Int)))))))) else (some (.done i15))))
noncomputable def m_lockstepref04_Small_L3 (a_f : TFunc) : (Int × Int) → Option (LR (Int × Int) Int) :=
  fun ((i1, i2) : (Int × Int)) => (bif (bif (decide ((i2 : Int) < (a_f.Blocks.length : Int))) then (decide ((i1 : Int) ≤ (20000 : Int))) else false) then (chk (InB i2 a_f.Blocks.length) ((loopO (S := (Int × Int)) (X := Int) (m_lockstepref04_Small_L1 a_f i2) ((w64 ((w64 (i1 + (1 : Int))) + (((a_f.Blocks.getD (i2).toNat (default : TBlock)).End.To).length : Int))), (0 : Int))).bind (fun x13 => (((loopO (S := (Int × Int)) (X := Int) (m_lockstepref04_Small_L2 a_f i2) (x13, (0 : Int))).bind (fun x21 => ((some (.next (x21, (w64 (i2 + (1 : Int))))))))))))) else (some (.done i1)))
noncomputable def Q105 (a_f : TFunc) (i2 : Int) := (a_f.Blocks.getD (i2).toNat (default : TBlock))
noncomputable def Q106 (i2 : Int) (a_f : TFunc) := (decide ((i2 : Int) < (a_f.Blocks.length : Int)))
noncomputable def Q107 (i16 : Int) (a_f : TFunc) (i2 : Int) := (decide ((i16 : Int) < (((Q105 a_f i2).Ops).length : Int)))
noncomputable def Q108 (i6 : Int) (a_f : TFunc) (i2 : Int) := (decide ((i6 : Int) < (((Q105 a_f i2).Phis).length : Int)))
noncomputable def Q104 (a_f : TFunc) : List (Nat × Own) := [(1, .row 25 [(AV.list 1 eI64 (0 : Int) a_f.Params .none), (.int .i64 a_f.Ret), (AV.list 5 eTBlock (default : TBlock) a_f.Blocks .none)])]
noncomputable def Q109 (i5 : Int) (a_f : TFunc) (i2 : Int) (i6 : Int) : AV := (.int .i64 (w64 ((w64 ((w64 (i5 + (1 : Int))) + (((((Q105 a_f i2).Phis).getD (i6).toNat (default : TPhi)).From).length : Int))) + (((((Q105 a_f i2).Phis).getD (i6).toNat (default : TPhi)).Args).length : Int))))
noncomputable def m_lockstepref04_Small (a_f : TFunc) : Option Bool :=
  ((loopO (S := (Int × Int)) (X := Int) (m_lockstepref04_Small_L3 a_f) ((a_f.Params.length : Int), (0 : Int))).bind (fun x23 => ((some (decide ((x23 : Int) ≤ (20000 : Int)))))))
theorem ok_lockstepref04_Small (a_f : TFunc) (r : Bool) (h : m_lockstepref04_Small a_f = some r) : Spec Try.prog 10 [(.agg (eTFunc a_f))] [] (.bool r) [] := by
  refine spec_of_awp (fn := Try.f10) Try.func10 rfl rfl (by kernel_rfl) (fun Γ hn hΓ => ?_)
  have hn : Γ.n = 104 := hn
  unfold m_lockstepref04_Small at h
  refine rgs0 (⟨[(1, (.ptr 1 0))], (Q104 a_f), []⟩ : St) hn mix (no_hand hΓ) (by kernel_rfl) ?_
  refine rgs0 (⟨[(1, (.ptr 1 0)), (3, (.int .i64 (a_f.Params.length : Int)))], (Q104 a_f), []⟩ : St) hn mix (no_hand hΓ) (by kernel_rfl) ?_
  refine awp_seq ?_
  refine rgs0 (⟨[(1, (.ptr 1 0)), (3, (.int .i64 (a_f.Params.length : Int))), (4, (.int .i64 (0 : Int)))], (Q104 a_f), []⟩ : St) hn mix (no_hand hΓ) (by kernel_rfl) ?_
  refine awp_block ?_
  refine awp_le (st' := (fun ((i1, i2) : (Int × Int)) => (⟨[(1, (.ptr 1 0)), (3, (.int .i64 i1)), (4, (.int .i64 i2))], (Q104 a_f), []⟩ : St)) ((a_f.Params.length : Int), (0 : Int))) (Le.refl _ _) ?_
  obtain ⟨x23, hx23, h⟩ := bind_some h
  refine awp_loop (fun ((i1, i2) : (Int × Int)) => (⟨[(1, (.ptr 1 0)), (3, (.int .i64 i1)), (4, (.int .i64 i2))], (Q104 a_f), []⟩ : St)) _ (fun (i3 : Int) (e : Exit) (st : St) => e = (.exit 0) ∧ Le Γ st (⟨[(3, (.int .i64 i3))], [], []⟩ : St)) ?_ hx23 ?_
  · rintro ⟨i1, i2⟩ y h
    unfold m_lockstepref04_Small_L3 at h
    refine awp_seq ?_
    refine rgs [] [] (⟨[(1, (.ptr 1 0)), (3, (.int .i64 i1)), (4, (.int .i64 i2)), (18, (.bool (bif (Q106 i2 a_f) then (decide ((i1 : Int) ≤ (20000 : Int))) else false)))], (Q104 a_f), []⟩ : St) [(((Q106 i2 a_f) == true) = true → ((Q106 i2 a_f) == true) = true), ((Q106 i2 a_f) = true → ((Q106 i2 a_f) == true) = true)] hn mix (no_hand hΓ) (by kernel_rfl) ⟨(fun hg => hg), gT, trivial⟩ ?_
    refine awp_cond (bif (Q106 i2 a_f) then (decide ((i1 : Int) ≤ (20000 : Int))) else false) (by kernel_rfl) (fun hb => ?_) (fun hb => ?_)
    · replace h := cond_t hb h
      clear hb
      refine awp_skip ?_
      refine then_normal ?_
      refine awp_seq ?_
      refine awp_block ?_
      obtain ⟨hc4, h⟩ := chk_some h
      refine rgs [] [] (⟨[(1, (.ptr 1 0)), (3, (.int .i64 (w64 ((w64 (i1 + (1 : Int))) + (((Q105 a_f i2).End.To).length : Int))))), (4, (.int .i64 i2))], (Q104 a_f), []⟩ : St) [(InB i2 a_f.Blocks.length)] hn mix (no_hand hΓ) (by kernel_rfl) ⟨hc4, trivial⟩ ?_
      refine awp_seq ?_
      refine rgs0 (⟨[(1, (.ptr 1 0)), (3, (.int .i64 (w64 ((w64 (i1 + (1 : Int))) + (((Q105 a_f i2).End.To).length : Int))))), (4, (.int .i64 i2)), (5, (.int .i64 (0 : Int)))], (Q104 a_f), []⟩ : St) hn mix (no_hand hΓ) (by kernel_rfl) ?_
      refine awp_block ?_
      refine awp_le (st' := (fun ((i5, i6) : (Int × Int)) => (⟨[(1, (.ptr 1 0)), (3, (.int .i64 i5)), (4, (.int .i64 i2)), (5, (.int .i64 i6))], (Q104 a_f), []⟩ : St)) ((w64 ((w64 (i1 + (1 : Int))) + (((Q105 a_f i2).End.To).length : Int))), (0 : Int))) (Le.refl _ _) ?_
      obtain ⟨x13, hx13, h⟩ := bind_some h
      refine awp_loop (fun ((i5, i6) : (Int × Int)) => (⟨[(1, (.ptr 1 0)), (3, (.int .i64 i5)), (4, (.int .i64 i2)), (5, (.int .i64 i6))], (Q104 a_f), []⟩ : St)) _ (fun (i7 : Int) (e : Exit) (st : St) => e = (.exit 2) ∧ Le Γ st (⟨[(1, (.ptr 1 0)), (3, (.int .i64 i7)), (4, (.int .i64 i2))], (Q104 a_f), []⟩ : St)) ?_ hx13 ?_
      · rintro ⟨i5, i6⟩ y h
        unfold m_lockstepref04_Small_L1 at h
        refine awp_seq ?_
        obtain ⟨hc8, h⟩ := chk_some h
        refine rgs [] [] (⟨[(1, (.ptr 1 0)), (3, (.int .i64 i5)), (4, (.int .i64 i2)), (5, (.int .i64 i6)), (44, (.bool (bif (Q108 i6 a_f i2) then (decide ((i5 : Int) ≤ (20000 : Int))) else false)))], (Q104 a_f), []⟩ : St) [(InB i2 a_f.Blocks.length), (((Q108 i6 a_f i2) == true) = true → ((Q108 i6 a_f i2) == true) = true), ((Q108 i6 a_f i2) = true → ((Q108 i6 a_f i2) == true) = true)] hn mix (no_hand hΓ) (by kernel_rfl) ⟨hc8, (fun hg => hg), gT, trivial⟩ ?_
        refine awp_cond (bif (Q108 i6 a_f i2) then (decide ((i5 : Int) ≤ (20000 : Int))) else false) (by kernel_rfl) (fun hb => ?_) (fun hb => ?_)
        · replace h := cond_t hb h
          clear hb
          refine awp_skip ?_
          refine then_normal ?_
          refine awp_seq ?_
          refine awp_block ?_
          obtain ⟨hc9, h⟩ := chk_some h
          obtain ⟨hc10, h⟩ := chk_some h
          obtain ⟨hc11, h⟩ := chk_some h
          obtain ⟨hc12, h⟩ := chk_some h
          refine rg [] [] (⟨[(1, (.ptr 1 0)), (3, (Q109 i5 a_f i2 i6)), (4, (.int .i64 i2)), (5, (.int .i64 i6))], (Q104 a_f), []⟩ : St) [(InB i2 a_f.Blocks.length), (InB i6 ((Q105 a_f i2).Phis).length), (InB i2 a_f.Blocks.length), (InB i6 ((Q105 a_f i2).Phis).length)] hn mix (no_hand hΓ) (by kernel_rfl) ⟨hc9, hc10, hc11, hc12, trivial⟩ ?_
          refine block_normal ?_
          refine then_normal ?_
          refine rg0 (⟨[(1, (.ptr 1 0)), (3, (Q109 i5 a_f i2 i6)), (4, (.int .i64 i2)), (5, (.int .i64 (w64 (i6 + (1 : Int)))))], (Q104 a_f), []⟩ : St) hn mix (no_hand hΓ) (by kernel_rfl) ?_
          obtain rfl := Option.some.inj h
          exact ⟨rfl, Le.refl _ _⟩
        · replace h := cond_f hb h
          clear hb
          refine awp_exit ?_
          refine then_exit ?_
          obtain rfl := Option.some.inj h
          exact ⟨(by intro hh; cases hh), rfl, le_restrict_eq [1, 3, 4] [1] (by kernel_rfl) (no_hand hΓ)⟩
      · clear hx13
        rintro e st' ⟨rfl, hl14⟩
        refine block_here ?_
        refine then_normal ?_
        refine awp_le hl14 ?_
        refine rgs0 (⟨[(1, (.ptr 1 0)), (3, (.int .i64 x13)), (4, (.int .i64 i2)), (6, (.int .i64 (0 : Int)))], (Q104 a_f), []⟩ : St) hn mix (no_hand hΓ) (by kernel_rfl) ?_
        refine awp_block ?_
        refine awp_le (st' := (fun ((i15, i16) : (Int × Int)) => (⟨[(1, (.ptr 1 0)), (3, (.int .i64 i15)), (4, (.int .i64 i2)), (6, (.int .i64 i16))], (Q104 a_f), []⟩ : St)) (x13, (0 : Int))) (Le.refl _ _) ?_
        obtain ⟨x21, hx21, h⟩ := bind_some h
        refine awp_loop (fun ((i15, i16) : (Int × Int)) => (⟨[(1, (.ptr 1 0)), (3, (.int .i64 i15)), (4, (.int .i64 i2)), (6, (.int .i64 i16))], (Q104 a_f), []⟩ : St)) _ (fun (i17 : Int) (e : Exit) (st : St) => e = (.exit 4) ∧ Le Γ st (⟨[(1, (.ptr 1 0)), (3, (.int .i64 i17)), (4, (.int .i64 i2))], (Q104 a_f), []⟩ : St)) ?_ hx21 ?_
        · rintro ⟨i15, i16⟩ y h
          unfold m_lockstepref04_Small_L2 at h
          refine awp_seq ?_
          obtain ⟨hc18, h⟩ := chk_some h
          refine rgs [] [] (⟨[(1, (.ptr 1 0)), (3, (.int .i64 i15)), (4, (.int .i64 i2)), (6, (.int .i64 i16)), (85, (.bool (bif (Q107 i16 a_f i2) then (decide ((i15 : Int) ≤ (20000 : Int))) else false)))], (Q104 a_f), []⟩ : St) [(InB i2 a_f.Blocks.length), (((Q107 i16 a_f i2) == true) = true → ((Q107 i16 a_f i2) == true) = true), ((Q107 i16 a_f i2) = true → ((Q107 i16 a_f i2) == true) = true)] hn mix (no_hand hΓ) (by kernel_rfl) ⟨hc18, (fun hg => hg), gT, trivial⟩ ?_
          refine awp_cond (bif (Q107 i16 a_f i2) then (decide ((i15 : Int) ≤ (20000 : Int))) else false) (by kernel_rfl) (fun hb => ?_) (fun hb => ?_)
          · replace h := cond_t hb h
            clear hb
            refine awp_skip ?_
            refine then_normal ?_
            refine awp_seq ?_
            refine awp_block ?_
            obtain ⟨hc19, h⟩ := chk_some h
            obtain ⟨hc20, h⟩ := chk_some h
            refine rg [] [] (⟨[(1, (.ptr 1 0)), (3, (.int .i64 (w64 ((w64 (i15 + (1 : Int))) + (((((Q105 a_f i2).Ops).getD (i16).toNat (default : TOp)).Args).length : Int))))), (4, (.int .i64 i2)), (6, (.int .i64 i16))], (Q104 a_f), []⟩ : St) [(InB i2 a_f.Blocks.length), (InB i16 ((Q105 a_f i2).Ops).length)] hn mix (no_hand hΓ) (by kernel_rfl) ⟨hc19, hc20, trivial⟩ ?_
            refine block_normal ?_
            refine then_normal ?_
            refine rg0 (⟨[(1, (.ptr 1 0)), (3, (.int .i64 (w64 ((w64 (i15 + (1 : Int))) + (((((Q105 a_f i2).Ops).getD (i16).toNat (default : TOp)).Args).length : Int))))), (4, (.int .i64 i2)), (6, (.int .i64 (w64 (i16 + (1 : Int)))))], (Q104 a_f), []⟩ : St) hn mix (no_hand hΓ) (by kernel_rfl) ?_
            obtain rfl := Option.some.inj h
            exact ⟨rfl, Le.refl _ _⟩
          · replace h := cond_f hb h
            clear hb
            refine awp_exit ?_
            refine then_exit ?_
            obtain rfl := Option.some.inj h
            exact ⟨(by intro hh; cases hh), rfl, le_restrict_eq [1, 3, 4] [1] (by kernel_rfl) (no_hand hΓ)⟩
        · clear hx21
          rintro e st' ⟨rfl, hl22⟩
          refine block_here ?_
          refine block_normal ?_
          refine then_normal ?_
          refine awp_le hl22 ?_
          refine rg0 (⟨[(1, (.ptr 1 0)), (3, (.int .i64 x21)), (4, (.int .i64 (w64 (i2 + (1 : Int)))))], (Q104 a_f), []⟩ : St) hn mix (no_hand hΓ) (by kernel_rfl) ?_
          obtain rfl := Option.some.inj h
          exact ⟨rfl, Le.refl _ _⟩
    · replace h := cond_f hb h
      clear hb
      refine awp_exit ?_
      refine then_exit ?_
      obtain rfl := Option.some.inj h
      exact ⟨(by intro hh; cases hh), rfl, le_restrict_eq [3] [] (by kernel_rfl) (no_hand hΓ)⟩
  · clear hx23
    rintro e st' ⟨rfl, hl24⟩
    refine block_here ?_
    refine then_normal ?_
    refine awp_le hl24 ?_
    refine rgs0 (⟨[(2, (.bool (decide ((x23 : Int) ≤ (20000 : Int)))))], [], []⟩ : St) hn mix (no_hand hΓ) (by kernel_rfl) ?_
    refine awp_ret ?_
    obtain rfl := Option.some.inj h
    exact ⟨.inl rfl, [], by kernel_rfl⟩

noncomputable def m_graph_endFits_L1 (a_e : TEnd) (a_n : Int) : Int → Option (LR Int (Unit ⊕ Bool)) :=
  fun (i7 : Int) => (bif (decide ((i7 : Int) < (a_e.To.length : Int))) then (chk (InB i7 a_e.To.length) ((bif ((((a_e.To.getD (i7).toNat (0 : Int)) : Int) == (0 : Int)) == false) then m_graph_isPlace (a_e.To.getD (i7).toNat (0 : Int)) a_n else some false).bind fun x9 => (bif (bif (((a_e.To.getD (i7).toNat (0 : Int)) : Int) == (0 : Int)) then true else (!x9)) then (some (.done (.inr false))) else (some (.next (w64 (i7 + (1 : Int)))))))) else (some (.done (.inl ()))))
noncomputable def Q113 (a_e : TEnd) : AV := (AV.list 1 eI64 (0 : Int) a_e.To .none)
noncomputable def Q111 (a_e : TEnd) (i7 : Int) := (((a_e.To.getD (i7).toNat (0 : Int)) : Int) == (0 : Int))
noncomputable def Q110 (a_e : TEnd) : List (Nat × Own) := [(2, .row 49 [(.int .i64 a_e.Kind), (.int .i64 a_e.Arg), (Q113 a_e)])]
noncomputable def Q112 (a_n : Int) (a_e : TEnd) := (fun (i7 : Int) => (⟨[(1, (.int .i64 a_n)), (23, (Q113 a_e)), (24, (.int .i64 (a_e.To.length : Int))), (25, (.int .i64 i7))], [], []⟩ : St))
noncomputable def m_graph_endFits (a_e : TEnd) (a_n : Int) : Option Bool :=
  (Option.bind (α := (Int ⊕ Bool)) (Option.bind (α := Bool) (bif ((a_e.Kind : Int) == (0 : Int)) then (some (((a_e.Kind : Int) == (0 : Int)))) else (some (((a_e.Kind : Int) == (3 : Int))))) (fun x3 => ((bif x3 then (some ((.inl (0 : Int)))) else (bif ((a_e.Kind : Int) == (1 : Int)) then (some ((.inl (1 : Int)))) else (bif ((a_e.Kind : Int) == (2 : Int)) then (some ((.inl (2 : Int)))) else (some ((.inr false))))))))) (fun x5 => (match x5 with | (.inl i1) => (bif (((a_e.To.length : Int) : Int) != i1) then (some false) else ((loopO (S := Int) (X := (Unit ⊕ Bool)) (m_graph_endFits_L1 a_e a_n) (0 : Int)).bind (fun x10 => (match x10 with | (.inl _) => (some true) | (.inr r12) => (some r12))))) | (.inr r13) => (some r13))))
theorem ok_graph_endFits (a_e : TEnd) (a_n : Int) (r : Bool) (h : m_graph_endFits a_e a_n = some r) : Spec Try.prog 26 [(.agg (eTEnd a_e)), (.int .i64 a_n)] [] (.bool r) [] := by
  refine spec_of_awp (fn := Try.f26) Try.func26 rfl rfl (by kernel_rfl) (fun Γ hn hΓ => ?_)
  have hn : Γ.n = 38 := hn
  unfold m_graph_endFits at h
  refine rgs0 (⟨[(1, (.int .i64 a_n)), (2, (.ptr 2 0))], (Q110 a_e), []⟩ : St) hn mix (no_hand hΓ) (by kernel_rfl) ?_
  refine rgs0 (⟨[(1, (.int .i64 a_n)), (2, (.ptr 2 0)), (5, (.int .i64 (0 : Int)))], (Q110 a_e), []⟩ : St) hn mix (no_hand hΓ) (by kernel_rfl) ?_
  refine awp_seq ?_
  obtain ⟨x5, hx5, h⟩ := bind_some h
  refine awp_join (fun (x_ : (Int ⊕ Bool)) (e : Exit) (st : St) => match x_ with | (.inl i1) => e = .normal ∧ Le Γ st (⟨[(1, (.int .i64 a_n)), (2, (.ptr 2 0)), (5, (.int .i64 i1))], (Q110 a_e), []⟩ : St) | (.inr r_) => e = .ret ∧ retK Try.prog Try.f26.results.toList [] (.bool r_) [] e st) hx5 ?_ ?_
  · clear h hx5
    intro y h
    refine rgs0 (⟨[(1, (.int .i64 a_n)), (2, (.ptr 2 0)), (5, (.int .i64 (0 : Int))), (9, (.int .i64 a_e.Kind))], (Q110 a_e), []⟩ : St) hn mix (no_hand hΓ) (by kernel_rfl) ?_
    refine awp_block ?_
    refine awp_seq ?_
    obtain ⟨x3, hx3, h⟩ := bind_some h
    refine awp_join (fun (b2 : Bool) (e : Exit) (st : St) => e = .normal ∧ Le Γ st (⟨[(1, (.int .i64 a_n)), (2, (.ptr 2 0)), (5, (.int .i64 (0 : Int))), (9, (.int .i64 a_e.Kind)), (10, (.bool b2))], (Q110 a_e), []⟩ : St)) hx3 ?_ ?_
    · clear h hx3
      intro y h
      refine rgs0 (⟨[(1, (.int .i64 a_n)), (2, (.ptr 2 0)), (5, (.int .i64 (0 : Int))), (9, (.int .i64 a_e.Kind)), (10, (.bool ((a_e.Kind : Int) == (0 : Int))))], (Q110 a_e), []⟩ : St) hn mix (no_hand hΓ) (by kernel_rfl) ?_
      refine awp_cond ((a_e.Kind : Int) == (0 : Int)) (by kernel_rfl) (fun hb => ?_) (fun hb => ?_)
      · replace h := cond_t hb h
        clear hb
        refine awp_skip ?_
        obtain rfl := Option.some.inj h
        exact ⟨rfl, Le.refl _ _⟩
      · replace h := cond_f hb h
        clear hb
        refine rg0 (⟨[(1, (.int .i64 a_n)), (2, (.ptr 2 0)), (5, (.int .i64 (0 : Int))), (9, (.int .i64 a_e.Kind)), (10, (.bool ((a_e.Kind : Int) == (3 : Int))))], (Q110 a_e), []⟩ : St) hn mix (no_hand hΓ) (by kernel_rfl) ?_
        obtain rfl := Option.some.inj h
        exact ⟨rfl, Le.refl _ _⟩
    · clear hx3
      rintro e st' ⟨rfl, hl4⟩
      refine then_normal ?_
      refine awp_le hl4 ?_
      refine awp_cond x3 (by kernel_rfl) (fun hb => ?_) (fun hb => ?_)
      · replace h := cond_t hb h
        clear hb
        refine awp_skip ?_
        refine block_normal ?_
        obtain rfl := Option.some.inj h
        exact ⟨rfl, le_restrict_eq [1, 2, 5] [2] (by kernel_rfl) (no_hand hΓ)⟩
      · replace h := cond_f hb h
        clear hb
        refine rgs0 (⟨[(1, (.int .i64 a_n)), (2, (.ptr 2 0)), (9, (.int .i64 a_e.Kind)), (13, (.bool ((a_e.Kind : Int) == (1 : Int))))], (Q110 a_e), []⟩ : St) hn mix (no_hand hΓ) (by kernel_rfl) ?_
        refine awp_cond ((a_e.Kind : Int) == (1 : Int)) (by kernel_rfl) (fun hb => ?_) (fun hb => ?_)
        · replace h := cond_t hb h
          clear hb
          refine rg0 (⟨[(1, (.int .i64 a_n)), (2, (.ptr 2 0)), (5, (.int .i64 (1 : Int)))], (Q110 a_e), []⟩ : St) hn mix (no_hand hΓ) (by kernel_rfl) ?_
          refine block_normal ?_
          obtain rfl := Option.some.inj h
          exact ⟨rfl, Le.refl _ _⟩
        · replace h := cond_f hb h
          clear hb
          refine rgs0 (⟨[(1, (.int .i64 a_n)), (2, (.ptr 2 0)), (15, (.bool ((a_e.Kind : Int) == (2 : Int))))], (Q110 a_e), []⟩ : St) hn mix (no_hand hΓ) (by kernel_rfl) ?_
          refine awp_cond ((a_e.Kind : Int) == (2 : Int)) (by kernel_rfl) (fun hb => ?_) (fun hb => ?_)
          · replace h := cond_t hb h
            clear hb
            refine rg0 (⟨[(1, (.int .i64 a_n)), (2, (.ptr 2 0)), (5, (.int .i64 (2 : Int)))], (Q110 a_e), []⟩ : St) hn mix (no_hand hΓ) (by kernel_rfl) ?_
            refine block_normal ?_
            obtain rfl := Option.some.inj h
            exact ⟨rfl, Le.refl _ _⟩
          · replace h := cond_f hb h
            clear hb
            refine rgs0 (⟨[(4, (.bool false))], [], []⟩ : St) hn mix (no_hand hΓ) (by kernel_rfl) ?_
            refine awp_ret ?_
            refine block_ret ?_
            obtain rfl := Option.some.inj h
            exact ⟨rfl, ⟨.inl rfl, [], by kernel_rfl⟩⟩
  · clear hx5
    rcases x5 with i1 | r13
    · rintro e st' ⟨rfl, hl6⟩
      refine then_normal ?_
      refine awp_le hl6 ?_
      refine awp_seq ?_
      refine rgs0 (⟨[(1, (.int .i64 a_n)), (2, (.ptr 2 0)), (21, (.bool (((a_e.To.length : Int) : Int) != i1)))], (Q110 a_e), []⟩ : St) hn mix (no_hand hΓ) (by kernel_rfl) ?_
      refine awp_cond (((a_e.To.length : Int) : Int) != i1) (by kernel_rfl) (fun hb => ?_) (fun hb => ?_)
      · replace h := cond_t hb h
        clear hb
        refine rgs0 (⟨[(4, (.bool false))], [], []⟩ : St) hn mix (no_hand hΓ) (by kernel_rfl) ?_
        refine awp_ret ?_
        refine then_ret ?_
        obtain rfl := Option.some.inj h
        exact ⟨.inl rfl, [], by kernel_rfl⟩
      · replace h := cond_f hb h
        clear hb
        refine awp_skip ?_
        refine then_normal ?_
        refine awp_seq ?_
        refine rgs0 (⟨[(1, (.int .i64 a_n)), (23, (Q113 a_e)), (24, (.int .i64 (a_e.To.length : Int))), (25, (.int .i64 (0 : Int)))], [], []⟩ : St) hn mix (no_hand hΓ) (by kernel_rfl) ?_
        refine awp_block ?_
        refine awp_le (st' := (Q112 a_n a_e) (0 : Int)) (Le.refl _ _) ?_
        obtain ⟨x10, hx10, h⟩ := bind_some h
        refine awp_loop (Q112 a_n a_e) _ (fun (x_ : (Unit ⊕ Bool)) (e : Exit) (st : St) => match x_ with | (.inl _) => e = (.exit 1) ∧ Le Γ st (⟨[], [], []⟩ : St) | (.inr r_) => e = .ret ∧ retK Try.prog Try.f26.results.toList [] (.bool r_) [] e st) ?_ hx10 ?_
        · intro i7 y h
          unfold m_graph_endFits_L1 at h
          refine rgs0 (⟨[(1, (.int .i64 a_n)), (23, (Q113 a_e)), (24, (.int .i64 (a_e.To.length : Int))), (25, (.int .i64 i7)), (26, (.bool (decide ((i7 : Int) < (a_e.To.length : Int)))))], [], []⟩ : St) hn mix (no_hand hΓ) (by kernel_rfl) ?_
          refine awp_seq ?_
          refine awp_cond (decide ((i7 : Int) < (a_e.To.length : Int))) (by kernel_rfl) (fun hb => ?_) (fun hb => ?_)
          · replace h := cond_t hb h
            clear hb
            refine awp_skip ?_
            refine then_normal ?_
            refine awp_seq ?_
            refine awp_block ?_
            obtain ⟨hc8, h⟩ := chk_some h
            refine rgs [] [] (⟨[(1, (.int .i64 a_n)), (7, (.int .i64 (a_e.To.getD (i7).toNat (0 : Int)))), (23, (Q113 a_e)), (24, (.int .i64 (a_e.To.length : Int))), (25, (.int .i64 i7))], [], []⟩ : St) [(InB i7 a_e.To.length)] hn mix (no_hand hΓ) (by kernel_rfl) ⟨hc8, trivial⟩ ?_
            obtain ⟨x9, hx9, h⟩ := bind_some h
            refine rgs [⟨[], [], (.bool x9), []⟩] [] (⟨[(1, (.int .i64 a_n)), (23, (Q113 a_e)), (24, (.int .i64 (a_e.To.length : Int))), (25, (.int .i64 i7)), (36, (.bool (bif (Q111 a_e i7) then true else (!x9))))], [], []⟩ : St) [(((Q111 a_e i7) == false) = true → ((Q111 a_e i7) == false) = true), (((Q111 a_e i7) == false) = true → ((Q111 a_e i7) == false) = true), (((Q111 a_e i7) == false) = true → (Spec Try.prog 33 [(.int .i64 (a_e.To.getD (i7).toNat (0 : Int))), (.int .i64 a_n)] [] (.bool x9) [])), (((Q111 a_e i7) == false) = true → ((Q111 a_e i7) == false) = true), ((Q111 a_e i7) = false → ((Q111 a_e i7) == false) = true)] hn mix (no_hand hΓ) (by kernel_rfl) ⟨(fun hg => hg), (fun hg => hg), (fun hg => (ok_graph_isPlace (a_e.To.getD (i7).toNat (0 : Int)) a_n x9 (cond_t hg hx9))), (fun hg => hg), gF, trivial⟩ ?_
            refine awp_cond (bif (Q111 a_e i7) then true else (!x9)) (by kernel_rfl) (fun hb => ?_) (fun hb => ?_)
            · replace h := cond_t hb h
              clear hb
              refine rgs0 (⟨[(4, (.bool false))], [], []⟩ : St) hn mix (no_hand hΓ) (by kernel_rfl) ?_
              refine awp_ret ?_
              refine block_ret ?_
              refine then_ret ?_
              obtain rfl := Option.some.inj h
              exact ⟨(by intro hh; cases hh), rfl, ⟨.inl rfl, [], by kernel_rfl⟩⟩
            · replace h := cond_f hb h
              clear hb
              refine awp_skip ?_
              refine block_normal ?_
              refine then_normal ?_
              refine rg0 (⟨[(1, (.int .i64 a_n)), (23, (Q113 a_e)), (24, (.int .i64 (a_e.To.length : Int))), (25, (.int .i64 (w64 (i7 + (1 : Int)))))], [], []⟩ : St) hn mix (no_hand hΓ) (by kernel_rfl) ?_
              obtain rfl := Option.some.inj h
              exact ⟨rfl, Le.refl _ _⟩
          · replace h := cond_f hb h
            clear hb
            refine awp_exit ?_
            refine then_exit ?_
            obtain rfl := Option.some.inj h
            exact ⟨(by intro hh; cases hh), rfl, le_restrict_eq [] [] (by kernel_rfl) (no_hand hΓ)⟩
        · clear hx10
          rcases x10 with _ | r12
          · rintro e st' ⟨rfl, hl11⟩
            refine block_here ?_
            refine then_normal ?_
            refine awp_le hl11 ?_
            refine rgs0 (⟨[(4, (.bool true))], [], []⟩ : St) hn mix (no_hand hΓ) (by kernel_rfl) ?_
            refine awp_ret ?_
            obtain rfl := Option.some.inj h
            exact ⟨.inl rfl, [], by kernel_rfl⟩
          · rintro e st' ⟨rfl, hk⟩
            refine block_ret ?_
            refine then_ret ?_
            obtain rfl := Option.some.inj h
            exact hk
    · rintro e st' ⟨rfl, hk⟩
      refine then_ret ?_
      obtain rfl := Option.some.inj h
      exact hk

noncomputable def m_graph_Of_L1 (a_f : TFunc) : (Int × List (List (Int))) → Option (LR (Int × List (List (Int))) (List (List (Int)) ⊕ (TGraph × Int))) :=
  fun ((i3, l4) : (Int × List (List (Int)))) => (bif (decide ((i3 : Int) < (a_f.Blocks.length : Int))) then (chk (InB i3 a_f.Blocks.length) ((m_graph_endFits (⟨(a_f.Blocks.getD (i3).toNat (default : TBlock)).End.Kind, (a_f.Blocks.getD (i3).toNat (default : TBlock)).End.Arg, (a_f.Blocks.getD (i3).toNat (default : TBlock)).End.To⟩ : TEnd) (a_f.Blocks.length : Int)).bind fun x7 => (bif (!x7) then (some (.done (.inr ((⟨([] : List (List (Int))), ([] : List (List (Int)))⟩ : TGraph), (5 : Int))))) else ((x_rising ((a_f.Blocks.getD (i3).toNat (default : TBlock)).End.To)).bind fun x8 => (chk (InB i3 l4.length) (some (.next ((w64 (i3 + (1 : Int))), (l4.set (i3).toNat x8))))))))) else (some (.done (.inl l4))))
noncomputable def Q115 (a_f : TFunc) := (a_f.Blocks.length : Int)
noncomputable def Q127 (a_f : TFunc) : AV := (.int .i64 (Q115 a_f))
noncomputable def Q122 (l4 : List (List (Int))) := (fun i => eLI64 (l4.getD i []))
noncomputable def Q120 (a_f : TFunc) : AV := (AV.list 1 eI64 (0 : Int) a_f.Params .none)
noncomputable def Q119 : List (Nat × AV) := [(2, (.ptr 2 0)), (3, (.int .i64 (5 : Int)))]
noncomputable def Q116 (a_f : TFunc) : AV := (AV.list 5 eTBlock (default : TBlock) a_f.Blocks .none)
noncomputable def Q126 (a_f : TFunc) : List AV := [(Q120 a_f), (.int .i64 a_f.Ret), (Q116 a_f)]
noncomputable def Q118 (a_f : TFunc) (i3 : Int) := (a_f.Blocks.getD (i3).toNat (default : TBlock))
noncomputable def Q121 : AV := (AV.list 1 eLI64 [] ([] : List (List (Int))) .none)
noncomputable def Q125 (a_f : TFunc) := (List.replicate ((Q115 a_f)).toNat ([] : List (Int)))
noncomputable def Q114 : List AV := [(.slice 0 0 (fun _ => []) .exact), (.slice 0 0 (fun _ => []) .exact)]
noncomputable def Q117 : List AV := [(AV.list 1 eLI64 [] ([] : List (List (Int))) .exact), (AV.list 1 eLI64 [] ([] : List (List (Int))) .exact)]
noncomputable def Q123 (a_f : TFunc) (l4 : List (List (Int))) (i3 : Int) : List (Nat × AV) := [(2, (.ptr 2 0)), (4, (Q127 a_f)), (5, (.vsl 16 l4.length)), (18, (Q116 a_f)), (19, (Q127 a_f)), (20, (.int .i64 i3))]
noncomputable def Q124 (a_f : TFunc) (i3 : Int) (l4 : List (List (Int))) : List (Nat × Own) := [(2, .row 30 Q114), (7, .row 57 [(AV.list 4 eTPhi (default : TPhi) (Q118 a_f i3).Phis .none), (AV.list 6 eTOp (default : TOp) (Q118 a_f i3).Ops .none), (.int .i64 (Q118 a_f i3).End.Kind), (.int .i64 (Q118 a_f i3).End.Arg), (AV.list 1 eI64 (0 : Int) (Q118 a_f i3).End.To .none)]), (16, .arr 1 22 l4.length (Q122 l4))]
noncomputable def m_graph_Of (a_f : TFunc) : Option (TGraph × Int) :=
  ((m_graph_isCount (a_f.Blocks.length : Int)).bind fun x1 => (bif (!x1) then (some ((⟨([] : List (List (Int))), ([] : List (List (Int)))⟩ : TGraph), (5 : Int))) else (chk (0 ≤ (a_f.Blocks.length : Int) ∧ (a_f.Blocks.length : Int) ≤ (a_f.Blocks.length : Int) ∧ (a_f.Blocks.length : Int) ≤ (room : Int)) ((loopO (S := (Int × List (List (Int)))) (X := (List (List (Int)) ⊕ (TGraph × Int))) (m_graph_Of_L1 a_f) ((0 : Int), (List.replicate ((a_f.Blocks.length : Int)).toNat ([] : List (Int))))).bind (fun x10 => (match x10 with | (.inl l5) => ((m_graph_comers l5).bind fun x12 => (some ((⟨l5, x12⟩ : TGraph), (0 : Int)))) | (.inr r13) => (some r13)))))))
theorem ok_graph_Of (a_f : TFunc) (r : (TGraph × Int)) (h : m_graph_Of a_f = some r) : Spec Try.prog 11 [(.agg (eTFunc a_f))] [] (.tuple [(.agg (eTGraph r.1)), (.int .i64 r.2)]) [] := by
  refine spec_of_awp (fn := Try.f11) Try.func11 rfl rfl (by kernel_rfl) (fun Γ hn hΓ => ?_)
  have hn : Γ.n = 43 := hn
  unfold m_graph_Of at h
  refine rgs0 (⟨[(1, (.ptr 1 0)), (2, (.ptr 2 0))], [(1, .row 25 (Q126 a_f)), (2, .row 30 Q114)], []⟩ : St) hn mix (no_hand hΓ) (by kernel_rfl) ?_
  refine rgs0 (⟨[(1, (.ptr 1 0)), (2, (.ptr 2 0)), (4, (Q127 a_f))], [(1, .row 25 (Q126 a_f)), (2, .row 30 Q114)], []⟩ : St) hn mix (no_hand hΓ) (by kernel_rfl) ?_
  refine awp_seq ?_
  obtain ⟨x1, hx1, h⟩ := bind_some h
  refine rgs [⟨[], [], (.bool x1), []⟩] [] (⟨[(1, (.ptr 1 0)), (2, (.ptr 2 0)), (4, (Q127 a_f)), (13, (.bool (!x1)))], [(1, .row 25 (Q126 a_f)), (2, .row 30 Q114)], []⟩ : St) [(Spec Try.prog 25 [(Q127 a_f)] [] (.bool x1) [])] hn mix (no_hand hΓ) (by kernel_rfl) ⟨(ok_graph_isCount (Q115 a_f) x1 hx1), trivial⟩ ?_
  refine awp_cond (!x1) (by kernel_rfl) (fun hb => ?_) (fun hb => ?_)
  · replace h := cond_t hb h
    clear hb
    refine rgs [] [(14, (.agg Q117))] (⟨Q119, [(2, .row 30 Q117)], []⟩ : St) [(AVle (.agg Q114) (.agg Q117))] hn mix (no_hand hΓ) (by kernel_rfl) ⟨(AVle.agg (.cons av_nil (.cons av_nil .nil))), trivial⟩ ?_
    refine awp_le (st' := (⟨Q119, [(2, .row 30 [Q121, Q121])], []⟩ : St)) (Le.trans (le_restrict_eq (st' := (⟨Q119, [(2, .row 30 Q117)], []⟩ : St)) [2, 3] [2] (by kernel_rfl) (no_hand hΓ)) (le_of (.cons (AVle.refl _) (.cons (AVle.refl _) .nil)) (.row (.cons AVle.untag (.cons AVle.untag .nil)) .nil))) ?_
    refine awp_ret ?_
    refine then_ret ?_
    obtain rfl := Option.some.inj h
    exact ⟨.inl rfl, [], by kernel_rfl⟩
  · replace h := cond_f hb h
    clear hb
    refine awp_skip ?_
    refine then_normal ?_
    obtain ⟨hc2, h⟩ := chk_some h
    refine rgs [] [] (⟨[(1, (.ptr 1 0)), (2, (.ptr 2 0)), (4, (Q127 a_f)), (5, (.vsl 16 ((Q115 a_f)).toNat))], [(1, .row 25 (Q126 a_f)), (2, .row 30 Q114), (16, .arr 1 22 (((Q115 a_f)).toNat) (fun i_ => AV.eraseAll (fun n_ => memB n_ [1, 2, 16]) ((fun _ => [(.slice 0 0 (fun _ => []) .exact)]) i_)))], []⟩ : St) [(0 ≤ (Q115 a_f) ∧ (Q115 a_f) ≤ (Q115 a_f) ∧ (Q115 a_f) ≤ (room : Int))] hn mix (no_hand hΓ) (by kernel_rfl) ⟨hc2, trivial⟩ ?_
    refine awp_le (Le.trans (le_of (st' := (⟨[(1, (.ptr 1 0)), (2, (.ptr 2 0)), (4, (Q127 a_f)), (5, (.vsl 16 ((Q115 a_f)).toNat))], [(1, .row 25 (Q126 a_f)), (2, .row 30 Q114), (16, .arr 1 22 (((Q115 a_f)).toNat) (fun i => eLI64 ((Q125 a_f).getD i [])))], []⟩ : St)) (TmpsLe.refl _) (.same (.same (.arr (fun k hk => make_le (e := eLI64) (d := []) (.cons (fun _ _ _ _ _ hh => AVle.untag _ _ _ _ _ (av_nil _ _ _ _ _ hh)) .nil) _ k (repl_lt hk)) .nil)))) (le_eq (congrArg (fun k_ : Nat => (⟨[(1, (.ptr 1 0)), (2, (.ptr 2 0)), (4, (Q127 a_f)), (5, (.vsl 16 k_))], [(1, .row 25 (Q126 a_f)), (2, .row 30 Q114), (16, .arr 1 22 k_ (fun i => eLI64 ((Q125 a_f).getD i [])))], []⟩ : St)) (show ((Q115 a_f)).toNat = (Q125 a_f).length from (List.length_replicate ..).symm)))) ?_
    refine awp_seq ?_
    refine rgs0 (⟨[(2, (.ptr 2 0)), (4, (Q127 a_f)), (5, (.vsl 16 (Q125 a_f).length)), (18, (Q116 a_f)), (19, (Q127 a_f)), (20, (.int .i64 (0 : Int)))], [(2, .row 30 Q114), (16, .arr 1 22 ((Q125 a_f).length) (fun i => eLI64 ((Q125 a_f).getD i [])))], []⟩ : St) hn mix (no_hand hΓ) (by kernel_rfl) ?_
    refine awp_block ?_
    refine awp_le (st' := (fun ((i3, l4) : (Int × List (List (Int)))) => (⟨(Q123 a_f l4 i3), [(2, .row 30 Q114), (16, .arr 1 22 l4.length (Q122 l4))], []⟩ : St)) ((0 : Int), (Q125 a_f))) (Le.refl _ _) ?_
    obtain ⟨x10, hx10, h⟩ := bind_some h
    refine awp_loop (fun ((i3, l4) : (Int × List (List (Int)))) => (⟨(Q123 a_f l4 i3), [(2, .row 30 Q114), (16, .arr 1 22 l4.length (Q122 l4))], []⟩ : St)) _ (fun (x_ : (List (List (Int)) ⊕ (TGraph × Int))) (e : Exit) (st : St) => match x_ with | (.inl l5) => e = (.exit 0) ∧ Le Γ st (⟨[(2, (.ptr 2 0)), (5, (.vsl 16 l5.length))], [(2, .row 30 Q114), (16, .arr 1 22 l5.length (fun i => eLI64 (l5.getD i [])))], []⟩ : St) | (.inr r_) => e = .ret ∧ retK Try.prog Try.f11.results.toList [] (.tuple [(.agg (eTGraph r_.1)), (.int .i64 r_.2)]) [] e st) ?_ hx10 ?_
    · rintro ⟨i3, l4⟩ y h
      unfold m_graph_Of_L1 at h
      refine rgs0 (⟨[(2, (.ptr 2 0)), (4, (Q127 a_f)), (5, (.vsl 16 l4.length)), (18, (Q116 a_f)), (19, (Q127 a_f)), (20, (.int .i64 i3)), (21, (.bool (decide ((i3 : Int) < (Q115 a_f)))))], [(2, .row 30 Q114), (16, .arr 1 22 l4.length (Q122 l4))], []⟩ : St) hn mix (no_hand hΓ) (by kernel_rfl) ?_
      refine awp_seq ?_
      refine awp_cond (decide ((i3 : Int) < (Q115 a_f))) (by kernel_rfl) (fun hb => ?_) (fun hb => ?_)
      · replace h := cond_t hb h
        clear hb
        refine awp_skip ?_
        refine then_normal ?_
        refine awp_seq ?_
        refine awp_block ?_
        obtain ⟨hc6, h⟩ := chk_some h
        refine rgs [] [] (⟨[(2, (.ptr 2 0)), (4, (Q127 a_f)), (5, (.vsl 16 l4.length)), (6, (.int .i64 i3)), (7, (.ptr 7 0)), (18, (Q116 a_f)), (19, (Q127 a_f)), (20, (.int .i64 i3))], (Q124 a_f i3 l4), []⟩ : St) [(InB i3 a_f.Blocks.length)] hn mix (no_hand hΓ) (by kernel_rfl) ⟨hc6, trivial⟩ ?_
        refine awp_seq ?_
        obtain ⟨x7, hx7, h⟩ := bind_some h
        refine rgs [⟨[], [], (.bool x7), []⟩] [] (⟨[(2, (.ptr 2 0)), (4, (Q127 a_f)), (5, (.vsl 16 l4.length)), (6, (.int .i64 i3)), (7, (.ptr 7 0)), (18, (Q116 a_f)), (19, (Q127 a_f)), (20, (.int .i64 i3)), (29, (.bool (!x7)))], (Q124 a_f i3 l4), []⟩ : St) [(Spec Try.prog 26 [(.agg [(.int .i64 (Q118 a_f i3).End.Kind), (.int .i64 (Q118 a_f i3).End.Arg), (AV.list 1 eI64 (0 : Int) (Q118 a_f i3).End.To .none)]), (Q127 a_f)] [] (.bool x7) [])] hn mix (no_hand hΓ) (by kernel_rfl) ⟨(ok_graph_endFits (⟨(Q118 a_f i3).End.Kind, (Q118 a_f i3).End.Arg, (Q118 a_f i3).End.To⟩ : TEnd) (Q115 a_f) x7 hx7), trivial⟩ ?_
        refine awp_cond (!x7) (by kernel_rfl) (fun hb => ?_) (fun hb => ?_)
        · replace h := cond_t hb h
          clear hb
          refine rgs [] [(30, (.agg Q117))] (⟨Q119, [(2, .row 30 Q117)], []⟩ : St) [(AVle (.agg Q114) (.agg Q117))] hn mix (no_hand hΓ) (by kernel_rfl) ⟨(AVle.agg (.cons av_nil (.cons av_nil .nil))), trivial⟩ ?_
          refine awp_le (st' := (⟨Q119, [(2, .row 30 [Q121, Q121])], []⟩ : St)) (Le.trans (le_restrict_eq (st' := (⟨Q119, [(2, .row 30 Q117)], []⟩ : St)) [2, 3] [2] (by kernel_rfl) (no_hand hΓ)) (le_of (.cons (AVle.refl _) (.cons (AVle.refl _) .nil)) (.row (.cons AVle.untag (.cons AVle.untag .nil)) .nil))) ?_
          refine awp_ret ?_
          refine then_ret ?_
          refine block_ret ?_
          refine then_ret ?_
          obtain rfl := Option.some.inj h
          exact ⟨(by intro hh; cases hh), rfl, ⟨.inl rfl, [], by kernel_rfl⟩⟩
        · replace h := cond_f hb h
          clear hb
          refine awp_skip ?_
          refine then_normal ?_
          obtain ⟨x8, hx8, h⟩ := bind_some h
          obtain ⟨hc9, h⟩ := chk_some h
          refine rg [⟨[], [], (AV.list 1 eI64 (0 : Int) x8 .none), []⟩] [] (⟨(Q123 a_f l4 i3), [(2, .row 30 Q114), (16, .arr 1 22 l4.length (fun i_ => AV.eraseAll (fun n_ => memB n_ [2, 16]) ((putF (Q122 l4) (i3).toNat 0 [(AV.list 1 eI64 (0 : Int) x8 .none)]) i_)))], []⟩ : St) [(Spec Try.prog 27 [(AV.list 1 eI64 (0 : Int) (Q118 a_f i3).End.To .none)] [] (AV.list 1 eI64 (0 : Int) x8 .none) []), (InB i3 l4.length), (l4.length = l4.length)] hn mix (no_hand hΓ) (by kernel_rfl) ⟨(xok_rising ((Q118 a_f i3).End.To) x8 hx8), hc9, rfl, trivial⟩ ?_
          refine block_normal ?_
          refine then_normal ?_
          refine awp_le (Le.trans (le_of (st' := (⟨(Q123 a_f l4 i3), [(2, .row 30 Q114), (16, .arr 1 22 l4.length (fun i => eLI64 ((l4.set (i3).toNat x8).getD i [])))], []⟩ : St)) (TmpsLe.refl _) (.same (.arr (leL_of_eq (List.length_set ..).symm (fun k_ hk_ => (congrArg (AV.eraseAll (fun n_ => memB n_ [2, 16])) ((putF_set (fun _ _ => rfl) (inB_lt0 hc9) rfl) k_ hk_)).trans rfl)) .nil))) (le_eq (congrArg (fun k_ : Nat => (⟨[(2, (.ptr 2 0)), (4, (Q127 a_f)), (5, (.vsl 16 k_)), (18, (Q116 a_f)), (19, (Q127 a_f)), (20, (.int .i64 i3))], [(2, .row 30 Q114), (16, .arr 1 22 k_ (fun i => eLI64 ((l4.set (i3).toNat x8).getD i [])))], []⟩ : St)) (show l4.length = (l4.set (i3).toNat x8).length from (List.length_set ..).symm)))) ?_
          refine rg0 (⟨[(2, (.ptr 2 0)), (4, (Q127 a_f)), (5, (.vsl 16 (l4.set (i3).toNat x8).length)), (18, (Q116 a_f)), (19, (Q127 a_f)), (20, (.int .i64 (w64 (i3 + (1 : Int)))))], [(2, .row 30 Q114), (16, .arr 1 22 ((l4.set (i3).toNat x8).length) (fun i => eLI64 ((l4.set (i3).toNat x8).getD i [])))], []⟩ : St) hn mix (no_hand hΓ) (by kernel_rfl) ?_
          obtain rfl := Option.some.inj h
          exact ⟨rfl, Le.refl _ _⟩
      · replace h := cond_f hb h
        clear hb
        refine awp_exit ?_
        refine then_exit ?_
        obtain rfl := Option.some.inj h
        exact ⟨(by intro hh; cases hh), rfl, le_restrict_eq [2, 5] [2, 16] (by kernel_rfl) (no_hand hΓ)⟩
    · clear hx10
      rcases x10 with l5 | r13
      · rintro e st' ⟨rfl, hl11⟩
        refine block_here ?_
        refine then_normal ?_
        refine awp_le hl11 ?_
        refine awp_seq ?_
        refine awp_le (Le.trans (le_freeze (nm := 16) (sz := 1) (n := l5.length) (e := 22) (f := (fun i => eLI64 (l5.getD i []))) (g := (fun i => eLI64 (l5.getD i []))) rfl ⟨rfl, trivial⟩ (fun _ _ => rfl) (by rw [hΓ]; rfl)) (le_eq (st' := (⟨[(2, (.ptr 2 0)), (5, (AV.list 1 eLI64 [] l5 (.own 16)))], [(2, .row 30 Q114), (16, .tok 1 22 l5.length)], []⟩ : St)) (by kernel_rfl))) ?_
        obtain ⟨x12, hx12, h⟩ := bind_some h
        refine rg [⟨[], [(20000, 41)], (AV.list 1 eLI64 [] x12 (.own 20000)), [(20000, .tok 1 22 x12.length)]⟩] [] (⟨[(2, (.ptr 2 0)), (3, (.int .i64 (0 : Int)))], [(2, .row 30 [(AV.list 1 eLI64 [] l5 (.own 16)), (AV.list 1 eLI64 [] x12 (.own 41))]), (16, .tok 1 22 l5.length), (41, .tok 1 22 x12.length)], []⟩ : St) [(Spec Try.prog 28 [(AV.list 1 eLI64 [] l5 .none)] [] (AV.list 1 eLI64 [] x12 (.own 20000)) [(20000, .tok 1 22 x12.length)])] hn mix (no_hand hΓ) (by kernel_rfl) ⟨(ok_graph_comers l5 x12 hx12), trivial⟩ ?_
        refine then_normal ?_
        refine awp_ret ?_
        obtain rfl := Option.some.inj h
        exact ⟨.inl rfl, [], by kernel_rfl⟩
      · rintro e st' ⟨rfl, hk⟩
        refine block_ret ?_
        refine then_ret ?_
        obtain rfl := Option.some.inj h
        exact hk

noncomputable def m_lockstepref06_Has_L1 (a_l : List (Int)) (a_x : Int) : Int → Option (LR Int (Unit ⊕ Bool)) :=
  fun (i1 : Int) => (bif (decide ((i1 : Int) < (a_l.length : Int))) then (chk (InB i1 a_l.length) (bif (((a_l.getD (i1).toNat (0 : Int)) : Int) == a_x) then (some (.done (.inr true))) else (some (.next (w64 (i1 + (1 : Int))))))) else (some (.done (.inl ()))))
noncomputable def Q128 (a_l : List (Int)) : AV := (AV.list 1 eI64 (0 : Int) a_l .none)
noncomputable def m_lockstepref06_Has (a_l : List (Int)) (a_x : Int) : Option Bool :=
  ((loopO (S := Int) (X := (Unit ⊕ Bool)) (m_lockstepref06_Has_L1 a_l a_x) (0 : Int)).bind (fun x3 => (match x3 with | (.inl _) => (some false) | (.inr r5) => (some r5))))
theorem ok_lockstepref06_Has (a_l : List (Int)) (a_x : Int) (r : Bool) (h : m_lockstepref06_Has a_l a_x = some r) : Spec Try.prog 24 [(AV.list 1 eI64 (0 : Int) a_l .none), (.int .i64 a_x)] [] (.bool r) [] := by
  refine spec_of_awp (fn := Try.f24) Try.func24 rfl rfl (by kernel_rfl) (fun Γ hn hΓ => ?_)
  have hn : Γ.n = 18 := hn
  unfold m_lockstepref06_Has at h
  refine rgs0 (⟨[(0, (Q128 a_l)), (1, (.int .i64 a_x))], [], []⟩ : St) hn mix (no_hand hΓ) (by kernel_rfl) ?_
  refine awp_seq ?_
  refine rgs0 (⟨[(0, (Q128 a_l)), (1, (.int .i64 a_x)), (5, (.int .i64 (0 : Int)))], [], []⟩ : St) hn mix (no_hand hΓ) (by kernel_rfl) ?_
  refine awp_block ?_
  refine awp_le (st' := (fun (i1 : Int) => (⟨[(0, (Q128 a_l)), (1, (.int .i64 a_x)), (5, (.int .i64 i1))], [], []⟩ : St)) (0 : Int)) (Le.refl _ _) ?_
  obtain ⟨x3, hx3, h⟩ := bind_some h
  refine awp_loop (fun (i1 : Int) => (⟨[(0, (Q128 a_l)), (1, (.int .i64 a_x)), (5, (.int .i64 i1))], [], []⟩ : St)) _ (fun (x_ : (Unit ⊕ Bool)) (e : Exit) (st : St) => match x_ with | (.inl _) => e = (.exit 0) ∧ Le Γ st (⟨[], [], []⟩ : St) | (.inr r_) => e = .ret ∧ retK Try.prog Try.f24.results.toList [] (.bool r_) [] e st) ?_ hx3 ?_
  · intro i1 y h
    unfold m_lockstepref06_Has_L1 at h
    refine awp_seq ?_
    refine rgs0 (⟨[(0, (Q128 a_l)), (1, (.int .i64 a_x)), (5, (.int .i64 i1)), (9, (.bool (decide ((i1 : Int) < (a_l.length : Int)))))], [], []⟩ : St) hn mix (no_hand hΓ) (by kernel_rfl) ?_
    refine awp_cond (decide ((i1 : Int) < (a_l.length : Int))) (by kernel_rfl) (fun hb => ?_) (fun hb => ?_)
    · replace h := cond_t hb h
      clear hb
      refine awp_skip ?_
      refine then_normal ?_
      refine awp_seq ?_
      refine awp_block ?_
      obtain ⟨hc2, h⟩ := chk_some h
      refine rgs [] [] (⟨[(0, (Q128 a_l)), (1, (.int .i64 a_x)), (5, (.int .i64 i1)), (17, (.bool (((a_l.getD (i1).toNat (0 : Int)) : Int) == a_x)))], [], []⟩ : St) [(InB i1 a_l.length)] hn mix (no_hand hΓ) (by kernel_rfl) ⟨hc2, trivial⟩ ?_
      refine awp_cond (((a_l.getD (i1).toNat (0 : Int)) : Int) == a_x) (by kernel_rfl) (fun hb => ?_) (fun hb => ?_)
      · replace h := cond_t hb h
        clear hb
        refine rgs0 (⟨[(4, (.bool true))], [], []⟩ : St) hn mix (no_hand hΓ) (by kernel_rfl) ?_
        refine awp_ret ?_
        refine block_ret ?_
        refine then_ret ?_
        obtain rfl := Option.some.inj h
        exact ⟨(by intro hh; cases hh), rfl, ⟨.inl rfl, [], by kernel_rfl⟩⟩
      · replace h := cond_f hb h
        clear hb
        refine awp_skip ?_
        refine block_normal ?_
        refine then_normal ?_
        refine rg0 (⟨[(0, (Q128 a_l)), (1, (.int .i64 a_x)), (5, (.int .i64 (w64 (i1 + (1 : Int)))))], [], []⟩ : St) hn mix (no_hand hΓ) (by kernel_rfl) ?_
        obtain rfl := Option.some.inj h
        exact ⟨rfl, Le.refl _ _⟩
    · replace h := cond_f hb h
      clear hb
      refine awp_exit ?_
      refine then_exit ?_
      obtain rfl := Option.some.inj h
      exact ⟨(by intro hh; cases hh), rfl, le_restrict_eq [] [] (by kernel_rfl) (no_hand hΓ)⟩
  · clear hx3
    rcases x3 with _ | r5
    · rintro e st' ⟨rfl, hl4⟩
      refine block_here ?_
      refine then_normal ?_
      refine awp_le hl4 ?_
      refine rgs0 (⟨[(4, (.bool false))], [], []⟩ : St) hn mix (no_hand hΓ) (by kernel_rfl) ?_
      refine awp_ret ?_
      obtain rfl := Option.some.inj h
      exact ⟨.inl rfl, [], by kernel_rfl⟩
    · rintro e st' ⟨rfl, hk⟩
      refine block_ret ?_
      refine then_ret ?_
      obtain rfl := Option.some.inj h
      exact hk

noncomputable def m_lockstepref06_Make_L1 (a_succ : List (List (Int))) (i1 : Int) : Int → Option (LR Int (Unit ⊕ (TGraph × Int))) :=
  fun (i2 : Int) => (chk (InB i1 a_succ.length) (bif (decide ((i2 : Int) < ((a_succ.getD (i1).toNat []).length : Int))) then (chk (InB i1 a_succ.length) (chk (InB i2 (a_succ.getD (i1).toNat []).length) (chk (((decide ((((a_succ.getD (i1).toNat []).getD (i2).toNat (0 : Int)) : Int) < (0 : Int))) == false) = true → (InB i1 a_succ.length)) (chk (((decide ((((a_succ.getD (i1).toNat []).getD (i2).toNat (0 : Int)) : Int) < (0 : Int))) == false) = true → (InB i2 (a_succ.getD (i1).toNat []).length)) (chk ((((bif (decide ((((a_succ.getD (i1).toNat []).getD (i2).toNat (0 : Int)) : Int) < (0 : Int))) then true else (decide (((a_succ.length : Int) : Int) ≤ ((a_succ.getD (i1).toNat []).getD (i2).toNat (0 : Int))))) == false) && ((decide (((0 : Int) : Int) < i2)) == true)) = true → (InB i1 a_succ.length)) (chk ((((bif (decide ((((a_succ.getD (i1).toNat []).getD (i2).toNat (0 : Int)) : Int) < (0 : Int))) then true else (decide (((a_succ.length : Int) : Int) ≤ ((a_succ.getD (i1).toNat []).getD (i2).toNat (0 : Int))))) == false) && ((decide (((0 : Int) : Int) < i2)) == true)) = true → (InB i2 (a_succ.getD (i1).toNat []).length)) (chk ((((bif (decide ((((a_succ.getD (i1).toNat []).getD (i2).toNat (0 : Int)) : Int) < (0 : Int))) then true else (decide (((a_succ.length : Int) : Int) ≤ ((a_succ.getD (i1).toNat []).getD (i2).toNat (0 : Int))))) == false) && ((decide (((0 : Int) : Int) < i2)) == true)) = true → (InB i1 a_succ.length)) (chk ((((bif (decide ((((a_succ.getD (i1).toNat []).getD (i2).toNat (0 : Int)) : Int) < (0 : Int))) then true else (decide (((a_succ.length : Int) : Int) ≤ ((a_succ.getD (i1).toNat []).getD (i2).toNat (0 : Int))))) == false) && ((decide (((0 : Int) : Int) < i2)) == true)) = true → (InB (w64 (i2 - (1 : Int))) (a_succ.getD (i1).toNat []).length)) (bif (bif (bif (decide ((((a_succ.getD (i1).toNat []).getD (i2).toNat (0 : Int)) : Int) < (0 : Int))) then true else (decide (((a_succ.length : Int) : Int) ≤ ((a_succ.getD (i1).toNat []).getD (i2).toNat (0 : Int))))) then true else (bif (decide (((0 : Int) : Int) < i2)) then (decide ((((a_succ.getD (i1).toNat []).getD (i2).toNat (0 : Int)) : Int) ≤ ((a_succ.getD (i1).toNat []).getD ((w64 (i2 - (1 : Int)))).toNat (0 : Int)))) else false)) then (some (.done (.inr ((⟨([] : List (List (Int))), ([] : List (List (Int)))⟩ : TGraph), (5 : Int))))) else (some (.next (w64 (i2 + (1 : Int)))))))))))))) else (some (.done (.inl ())))))
noncomputable def m_lockstepref06_Make_L2 (a_succ : List (List (Int))) : Int → Option (LR Int (Unit ⊕ (TGraph × Int))) :=
  fun (i1 : Int) => (bif (decide ((i1 : Int) < (a_succ.length : Int))) then ((loopO (S := Int) (X := (Unit ⊕ (TGraph × Int))) (m_lockstepref06_Make_L1 a_succ i1) (0 : Int)).bind (fun x12 => (match x12 with | (.inl _) => (some (.next (w64 (i1 + (1 : Int))))) | (.inr r14) => (some (.done (.inr r14)))))) else (some (.done (.inl ()))))
noncomputable def m_lockstepref06_Make_L3 (a_succ : List (List (Int))) (i18 : Int) : (Int × List (List (Int))) → Option (LR (Int × List (List (Int))) (List (List (Int)))) :=
  fun ((i21, l22) : (Int × List (List (Int)))) => (bif (decide ((i21 : Int) < (a_succ.length : Int))) then (Option.bind (α := List (List (Int))) (chk (InB i21 a_succ.length) ((m_lockstepref06_Has (a_succ.getD (i21).toNat []) i18).bind fun x26 => (bif x26 then (chk (InB i18 l22.length) (chk (InB i18 l22.length) (chk ((l22.getD (i18).toNat []).length + ([i21] : List (Int)).length ≤ room) (chk (InB i18 l22.length) (some ((l22.set (i18).toNat ((l22.getD (i18).toNat []) ++ ([i21] : List (Int)))))))))) else (some (l22))))) (fun x31 => ((some (.next ((w64 (i21 + (1 : Int))), x31)))))) else (some (.done l22)))
noncomputable def m_lockstepref06_Make_L4 (a_succ : List (List (Int))) : (Int × List (List (Int))) → Option (LR (Int × List (List (Int))) (List (List (Int)))) :=
  fun ((i18, l19) : (Int × List (List (Int)))) => (bif (decide ((i18 : Int) < (a_succ.length : Int))) then ((loopO (S := (Int × List (List (Int)))) (X := List (List (Int))) (m_lockstepref06_Make_L3 a_succ i18) ((0 : Int), l19)).bind (fun x33 => ((some (.next ((w64 (i18 + (1 : Int))), x33)))))) else (some (.done l19)))
noncomputable def Q130 : List AV := [(.slice 0 0 (fun _ => []) .exact), (.slice 0 0 (fun _ => []) .exact)]
noncomputable def Q151 : List (Nat × Own) := [(2, .row 30 Q130)]
noncomputable def Q145 (a_succ : List (List (Int))) := (a_succ.length : Int)
noncomputable def Q132 (a_succ : List (List (Int))) : AV := (AV.list 1 eLI64 [] a_succ .none)
noncomputable def Q134 (a_succ : List (List (Int))) : AV := (.int .i64 (Q145 a_succ))
noncomputable def Q133 (i2 : Int) := ((decide (((0 : Int) : Int) < i2)) == true)
noncomputable def Q140 (a_succ : List (List (Int))) := (((Q145 a_succ) : Int) == (0 : Int))
noncomputable def Q139 : List (Nat × AV) := [(2, (.ptr 2 0)), (3, (.int .i64 (5 : Int)))]
noncomputable def Q129 (a_succ : List (List (Int))) (i1 : Int) (i2 : Int) := (bif (decide ((((a_succ.getD (i1).toNat []).getD (i2).toNat (0 : Int)) : Int) < (0 : Int))) then true else (decide (((Q145 a_succ) : Int) ≤ ((a_succ.getD (i1).toNat []).getD (i2).toNat (0 : Int)))))
noncomputable def Q141 (a_succ : List (List (Int))) (i1 : Int) (i2 : Int) := (((Q129 a_succ i1 i2) == false) && (Q133 i2))
noncomputable def Q137 (l22 : List (List (Int))) (i18 : Int) (i21 : Int) := ((l22.getD (i18).toNat []) ++ ([i21] : List (Int)))
noncomputable def Q136 (a_succ : List (List (Int))) := (List.replicate ((Q145 a_succ)).toNat ([] : List (Int)))
noncomputable def Q147 (a_succ : List (List (Int))) : List (Nat × AV) := [(0, (Q132 a_succ)), (2, (.ptr 2 0)), (4, (Q134 a_succ)), (7, (.ptr 7 0))]
noncomputable def Q148 (a_succ : List (List (Int))) (i18 : Int) : List (Nat × AV) := [(0, (Q132 a_succ)), (2, (.ptr 2 0)), (4, (Q134 a_succ)), (7, (.ptr 7 0)), (8, (.int .i64 i18))]
noncomputable def Q131 (a_succ : List (List (Int))) (i1 : Int) (i2 : Int) := ((decide ((((a_succ.getD (i1).toNat []).getD (i2).toNat (0 : Int)) : Int) < (0 : Int))) == false)
noncomputable def Q135 : List AV := [(AV.list 1 eLI64 [] ([] : List (List (Int))) .exact), (AV.list 1 eLI64 [] ([] : List (List (Int))) .exact)]
noncomputable def Q146 (a_succ : List (List (Int))) (i1 : Int) := (⟨[(0, (Q132 a_succ)), (2, (.ptr 2 0)), (4, (Q134 a_succ)), (5, (.int .i64 i1))], Q151, []⟩ : St)
noncomputable def Q142 (a_succ : List (List (Int))) (i18 : Int) (i21 : Int) : List (Nat × AV) := [(0, (Q132 a_succ)), (2, (.ptr 2 0)), (4, (Q134 a_succ)), (7, (.ptr 7 0)), (8, (.int .i64 i18)), (9, (.int .i64 i21))]
noncomputable def Q150 := (⟨Q139, [(2, .row 30 [(AV.list 1 eLI64 [] ([] : List (List (Int))) .none), (AV.list 1 eLI64 [] ([] : List (List (Int))) .none)])], []⟩ : St)
noncomputable def Q143 (a_succ : List (List (Int))) (l19 : List (List (Int))) : List (Nat × Own) := [(2, .row 30 Q130), (7, .row 30 [(Q132 a_succ), (.vsl 77 l19.length)]), (77, .arr 1 22 l19.length (rowF 1 eI64 (0 : Int) l19 (Tag.fam 70077)))]
noncomputable def Q144 (a_succ : List (List (Int))) (l22 : List (List (Int))) : List (Nat × Own) := [(2, .row 30 Q130), (7, .row 30 [(Q132 a_succ), (.vsl 77 l22.length)]), (77, .arr 1 22 l22.length (rowF 1 eI64 (0 : Int) l22 (Tag.fam 70077)))]
noncomputable def Q149 (a_succ : List (List (Int))) (i1 : Int) := (fun (i2 : Int) => (⟨[(0, (Q132 a_succ)), (2, (.ptr 2 0)), (4, (Q134 a_succ)), (5, (.int .i64 i1)), (6, (.int .i64 i2))], Q151, []⟩ : St))
noncomputable def Q138 (i2 : Int) (a_succ : List (List (Int))) (i1 : Int) := (bif (decide (((0 : Int) : Int) < i2)) then (decide ((((a_succ.getD (i1).toNat []).getD (i2).toNat (0 : Int)) : Int) ≤ ((a_succ.getD (i1).toNat []).getD ((w64 (i2 - (1 : Int)))).toNat (0 : Int)))) else false)
noncomputable def m_lockstepref06_Make (a_succ : List (List (Int))) : Option (TGraph × Int) :=
  (bif (bif (((a_succ.length : Int) : Int) == (0 : Int)) then true else (decide (((64 : Int) : Int) < (a_succ.length : Int)))) then (some ((⟨([] : List (List (Int))), ([] : List (List (Int)))⟩ : TGraph), (5 : Int))) else ((loopO (S := Int) (X := (Unit ⊕ (TGraph × Int))) (m_lockstepref06_Make_L2 a_succ) (0 : Int)).bind (fun x15 => (match x15 with | (.inl _) => (chk (0 ≤ (a_succ.length : Int) ∧ (a_succ.length : Int) ≤ (a_succ.length : Int) ∧ (a_succ.length : Int) ≤ (room : Int)) ((loopO (S := (Int × List (List (Int)))) (X := List (List (Int))) (m_lockstepref06_Make_L4 a_succ) ((0 : Int), (List.replicate ((a_succ.length : Int)).toNat ([] : List (Int))))).bind (fun x35 => ((some ((⟨a_succ, x35⟩ : TGraph), (0 : Int))))))) | (.inr r37) => (some r37)))))
theorem ok_lockstepref06_Make (a_succ : List (List (Int))) (r : (TGraph × Int)) (h : m_lockstepref06_Make a_succ = some r) : Spec Try.prog 17 [(AV.list 1 eLI64 [] a_succ .none)] [] (.tuple [(.agg (eTGraph r.1)), (.int .i64 r.2)]) [] := by
  refine spec_of_awp (fn := Try.f17) Try.func17 rfl rfl (by kernel_rfl) (fun Γ hn hΓ => ?_)
  have hn : Γ.n = 108 := hn
  unfold m_lockstepref06_Make at h
  refine rgs0 (⟨[(0, (Q132 a_succ)), (2, (.ptr 2 0))], Q151, []⟩ : St) hn mix (no_hand hΓ) (by kernel_rfl) ?_
  refine rgs0 (⟨[(0, (Q132 a_succ)), (2, (.ptr 2 0)), (4, (Q134 a_succ))], Q151, []⟩ : St) hn mix (no_hand hΓ) (by kernel_rfl) ?_
  refine awp_seq ?_
  refine rgs [] [] (⟨[(0, (Q132 a_succ)), (2, (.ptr 2 0)), (4, (Q134 a_succ)), (17, (.bool (bif (Q140 a_succ) then true else (decide (((64 : Int) : Int) < (Q145 a_succ))))))], Q151, []⟩ : St) [(((Q140 a_succ) == false) = true → ((Q140 a_succ) == false) = true), ((Q140 a_succ) = false → ((Q140 a_succ) == false) = true)] hn mix (no_hand hΓ) (by kernel_rfl) ⟨(fun hg => hg), gF, trivial⟩ ?_
  refine awp_cond (bif (Q140 a_succ) then true else (decide (((64 : Int) : Int) < (Q145 a_succ)))) (by kernel_rfl) (fun hb => ?_) (fun hb => ?_)
  · replace h := cond_t hb h
    clear hb
    refine rgs [] [(18, (.agg Q135))] (⟨Q139, [(2, .row 30 Q135)], []⟩ : St) [(AVle (.agg Q130) (.agg Q135))] hn mix (no_hand hΓ) (by kernel_rfl) ⟨(AVle.agg (.cons av_nil (.cons av_nil .nil))), trivial⟩ ?_
    refine awp_le (st' := Q150) (Le.trans (le_restrict_eq (st' := (⟨Q139, [(2, .row 30 Q135)], []⟩ : St)) [2, 3] [2] (by kernel_rfl) (no_hand hΓ)) (le_of (.cons (AVle.refl _) (.cons (AVle.refl _) .nil)) (.row (.cons AVle.untag (.cons AVle.untag .nil)) .nil))) ?_
    refine awp_ret ?_
    refine then_ret ?_
    obtain rfl := Option.some.inj h
    exact ⟨.inl rfl, [], by kernel_rfl⟩
  · replace h := cond_f hb h
    clear hb
    refine awp_skip ?_
    refine then_normal ?_
    refine awp_seq ?_
    refine rgs0 (⟨[(0, (Q132 a_succ)), (2, (.ptr 2 0)), (4, (Q134 a_succ)), (5, (.int .i64 (0 : Int)))], Q151, []⟩ : St) hn mix (no_hand hΓ) (by kernel_rfl) ?_
    refine awp_block ?_
    refine awp_le (st' := (fun (i1 : Int) => (Q146 a_succ i1)) (0 : Int)) (Le.refl _ _) ?_
    obtain ⟨x15, hx15, h⟩ := bind_some h
    refine awp_loop (fun (i1 : Int) => (Q146 a_succ i1)) _ (fun (x_ : (Unit ⊕ (TGraph × Int))) (e : Exit) (st : St) => match x_ with | (.inl _) => e = (.exit 0) ∧ Le Γ st (⟨[(0, (Q132 a_succ)), (2, (.ptr 2 0)), (4, (Q134 a_succ))], Q151, []⟩ : St) | (.inr r_) => e = .ret ∧ retK Try.prog Try.f17.results.toList [] (.tuple [(.agg (eTGraph r_.1)), (.int .i64 r_.2)]) [] e st) ?_ hx15 ?_
    · intro i1 y h
      unfold m_lockstepref06_Make_L2 at h
      refine awp_seq ?_
      refine rgs0 (⟨[(0, (Q132 a_succ)), (2, (.ptr 2 0)), (4, (Q134 a_succ)), (5, (.int .i64 i1)), (21, (.bool (decide ((i1 : Int) < (Q145 a_succ)))))], Q151, []⟩ : St) hn mix (no_hand hΓ) (by kernel_rfl) ?_
      refine awp_cond (decide ((i1 : Int) < (Q145 a_succ))) (by kernel_rfl) (fun hb => ?_) (fun hb => ?_)
      · replace h := cond_t hb h
        clear hb
        refine awp_skip ?_
        refine then_normal ?_
        refine awp_seq ?_
        refine awp_block ?_
        refine rgs0 (⟨[(0, (Q132 a_succ)), (2, (.ptr 2 0)), (4, (Q134 a_succ)), (5, (.int .i64 i1)), (6, (.int .i64 (0 : Int)))], Q151, []⟩ : St) hn mix (no_hand hΓ) (by kernel_rfl) ?_
        refine awp_block ?_
        refine awp_le (st' := (Q149 a_succ i1) (0 : Int)) (Le.refl _ _) ?_
        obtain ⟨x12, hx12, h⟩ := bind_some h
        refine awp_loop (Q149 a_succ i1) _ (fun (x_ : (Unit ⊕ (TGraph × Int))) (e : Exit) (st : St) => match x_ with | (.inl _) => e = (.exit 2) ∧ Le Γ st (Q146 a_succ i1) | (.inr r_) => e = .ret ∧ retK Try.prog Try.f17.results.toList [] (.tuple [(.agg (eTGraph r_.1)), (.int .i64 r_.2)]) [] e st) ?_ hx12 ?_
        · intro i2 y h
          unfold m_lockstepref06_Make_L1 at h
          refine awp_seq ?_
          obtain ⟨hc3, h⟩ := chk_some h
          refine rgs [] [] (⟨[(0, (Q132 a_succ)), (2, (.ptr 2 0)), (4, (Q134 a_succ)), (5, (.int .i64 i1)), (6, (.int .i64 i2)), (30, (.bool (decide ((i2 : Int) < ((a_succ.getD (i1).toNat []).length : Int)))))], Q151, []⟩ : St) [(InB i1 a_succ.length)] hn mix (no_hand hΓ) (by kernel_rfl) ⟨hc3, trivial⟩ ?_
          refine awp_cond (decide ((i2 : Int) < ((a_succ.getD (i1).toNat []).length : Int))) (by kernel_rfl) (fun hb => ?_) (fun hb => ?_)
          · replace h := cond_t hb h
            clear hb
            refine awp_skip ?_
            refine then_normal ?_
            refine awp_seq ?_
            refine awp_block ?_
            obtain ⟨hc4, h⟩ := chk_some h
            obtain ⟨hc5, h⟩ := chk_some h
            obtain ⟨hc6, h⟩ := chk_some h
            obtain ⟨hc7, h⟩ := chk_some h
            obtain ⟨hc8, h⟩ := chk_some h
            obtain ⟨hc9, h⟩ := chk_some h
            obtain ⟨hc10, h⟩ := chk_some h
            obtain ⟨hc11, h⟩ := chk_some h
            refine rgs [] [] (⟨[(0, (Q132 a_succ)), (2, (.ptr 2 0)), (4, (Q134 a_succ)), (5, (.int .i64 i1)), (6, (.int .i64 i2)), (73, (.bool (bif (Q129 a_succ i1 i2) then true else (Q138 i2 a_succ i1))))], Q151, []⟩ : St) [(InB i1 a_succ.length), (InB i2 (a_succ.getD (i1).toNat []).length), ((Q131 a_succ i1 i2) = true → (Q131 a_succ i1 i2) = true), ((Q131 a_succ i1 i2) = true → (Q131 a_succ i1 i2) = true), ((Q131 a_succ i1 i2) = true → (InB i1 a_succ.length)), ((Q131 a_succ i1 i2) = true → (Q131 a_succ i1 i2) = true), ((Q131 a_succ i1 i2) = true → (Q131 a_succ i1 i2) = true), ((Q131 a_succ i1 i2) = true → (Q131 a_succ i1 i2) = true), ((Q131 a_succ i1 i2) = true → (InB i2 (a_succ.getD (i1).toNat []).length)), ((Q131 a_succ i1 i2) = true → (Q131 a_succ i1 i2) = true), ((Q131 a_succ i1 i2) = true → (Q131 a_succ i1 i2) = true), ((Q131 a_succ i1 i2) = true → (Q131 a_succ i1 i2) = true), ((decide ((((a_succ.getD (i1).toNat []).getD (i2).toNat (0 : Int)) : Int) < (0 : Int))) = false → (Q131 a_succ i1 i2) = true), (((Q129 a_succ i1 i2) == false) = true → ((Q129 a_succ i1 i2) == false) = true), (((Q129 a_succ i1 i2) == false) = true → ((Q129 a_succ i1 i2) == false) = true), ((Q141 a_succ i1 i2) = true → (Q141 a_succ i1 i2) = true), ((Q141 a_succ i1 i2) = true → (Q141 a_succ i1 i2) = true), ((Q141 a_succ i1 i2) = true → (InB i1 a_succ.length)), ((Q141 a_succ i1 i2) = true → (Q141 a_succ i1 i2) = true), ((Q141 a_succ i1 i2) = true → (Q141 a_succ i1 i2) = true), ((Q141 a_succ i1 i2) = true → (Q141 a_succ i1 i2) = true), ((Q141 a_succ i1 i2) = true → (InB i2 (a_succ.getD (i1).toNat []).length)), ((Q141 a_succ i1 i2) = true → (Q141 a_succ i1 i2) = true), ((Q141 a_succ i1 i2) = true → (Q141 a_succ i1 i2) = true), ((Q141 a_succ i1 i2) = true → (Q141 a_succ i1 i2) = true), ((Q141 a_succ i1 i2) = true → (InB i1 a_succ.length)), ((Q141 a_succ i1 i2) = true → (Q141 a_succ i1 i2) = true), ((Q141 a_succ i1 i2) = true → (Q141 a_succ i1 i2) = true), ((Q141 a_succ i1 i2) = true → (Q141 a_succ i1 i2) = true), ((Q141 a_succ i1 i2) = true → (Q141 a_succ i1 i2) = true), ((Q141 a_succ i1 i2) = true → (InB (w64 (i2 - (1 : Int))) (a_succ.getD (i1).toNat []).length)), ((Q141 a_succ i1 i2) = true → (Q141 a_succ i1 i2) = true), ((Q141 a_succ i1 i2) = true → (Q141 a_succ i1 i2) = true), ((Q141 a_succ i1 i2) = true → (Q141 a_succ i1 i2) = true), (((Q129 a_succ i1 i2) == false) = true → ((Q129 a_succ i1 i2) == false) = true), (((Q129 a_succ i1 i2) == false) = true → ((decide (((0 : Int) : Int) < i2)) = true → (Q141 a_succ i1 i2) = true)), ((Q129 a_succ i1 i2) = false → ((Q129 a_succ i1 i2) == false) = true)] hn mix (no_hand hΓ) (by kernel_rfl) ⟨hc4, hc5, (fun hg => hg), (fun hg => hg), (fun hg => (hc6 hg)), (fun hg => hg), (fun hg => hg), (fun hg => hg), (fun hg => (hc7 hg)), (fun hg => hg), (fun hg => hg), (fun hg => hg), gF, (fun hg => hg), (fun hg => hg), (fun hg => hg), (fun hg => hg), (fun hg => (hc8 hg)), (fun hg => hg), (fun hg => hg), (fun hg => hg), (fun hg => (hc9 hg)), (fun hg => hg), (fun hg => hg), (fun hg => hg), (fun hg => (hc10 hg)), (fun hg => hg), (fun hg => hg), (fun hg => hg), (fun hg => hg), (fun hg => (hc11 hg)), (fun hg => hg), (fun hg => hg), (fun hg => hg), (fun hg => hg), (fun hg => (aT hg)), gF, trivial⟩ ?_
            refine awp_cond (bif (Q129 a_succ i1 i2) then true else (Q138 i2 a_succ i1)) (by kernel_rfl) (fun hb => ?_) (fun hb => ?_)
            · replace h := cond_t hb h
              clear hb
              refine rgs [] [(74, (.agg Q135))] (⟨Q139, [(2, .row 30 Q135)], []⟩ : St) [(AVle (.agg Q130) (.agg Q135))] hn mix (no_hand hΓ) (by kernel_rfl) ⟨(AVle.agg (.cons av_nil (.cons av_nil .nil))), trivial⟩ ?_
              refine awp_le (st' := Q150) (Le.trans (le_restrict_eq (st' := (⟨Q139, [(2, .row 30 Q135)], []⟩ : St)) [2, 3] [2] (by kernel_rfl) (no_hand hΓ)) (le_of (.cons (AVle.refl _) (.cons (AVle.refl _) .nil)) (.row (.cons AVle.untag (.cons AVle.untag .nil)) .nil))) ?_
              refine awp_ret ?_
              refine block_ret ?_
              refine then_ret ?_
              obtain rfl := Option.some.inj h
              exact ⟨(by intro hh; cases hh), rfl, ⟨.inl rfl, [], by kernel_rfl⟩⟩
            · replace h := cond_f hb h
              clear hb
              refine awp_skip ?_
              refine block_normal ?_
              refine then_normal ?_
              refine rg0 (⟨[(0, (Q132 a_succ)), (2, (.ptr 2 0)), (4, (Q134 a_succ)), (5, (.int .i64 i1)), (6, (.int .i64 (w64 (i2 + (1 : Int)))))], Q151, []⟩ : St) hn mix (no_hand hΓ) (by kernel_rfl) ?_
              obtain rfl := Option.some.inj h
              exact ⟨rfl, Le.refl _ _⟩
          · replace h := cond_f hb h
            clear hb
            refine awp_exit ?_
            refine then_exit ?_
            obtain rfl := Option.some.inj h
            exact ⟨(by intro hh; cases hh), rfl, le_restrict_eq [0, 2, 4, 5] [2] (by kernel_rfl) (no_hand hΓ)⟩
        · clear hx12
          rcases x12 with _ | r14
          · rintro e st' ⟨rfl, hl13⟩
            refine block_here ?_
            refine block_normal ?_
            refine then_normal ?_
            refine awp_le hl13 ?_
            refine rg0 (⟨[(0, (Q132 a_succ)), (2, (.ptr 2 0)), (4, (Q134 a_succ)), (5, (.int .i64 (w64 (i1 + (1 : Int)))))], Q151, []⟩ : St) hn mix (no_hand hΓ) (by kernel_rfl) ?_
            obtain rfl := Option.some.inj h
            exact ⟨rfl, Le.refl _ _⟩
          · rintro e st' ⟨rfl, hk⟩
            refine block_ret ?_
            refine block_ret ?_
            refine then_ret ?_
            obtain rfl := Option.some.inj h
            exact ⟨(by intro hh; cases hh), rfl, hk⟩
      · replace h := cond_f hb h
        clear hb
        refine awp_exit ?_
        refine then_exit ?_
        obtain rfl := Option.some.inj h
        exact ⟨(by intro hh; cases hh), rfl, le_restrict_eq [0, 2, 4] [2] (by kernel_rfl) (no_hand hΓ)⟩
    · clear hx15
      rcases x15 with _ | r37
      · rintro e st' ⟨rfl, hl16⟩
        refine block_here ?_
        refine then_normal ?_
        refine awp_le hl16 ?_
        obtain ⟨hc17, h⟩ := chk_some h
        refine rgs [] [] (⟨(Q147 a_succ), [(2, .row 30 Q130), (7, .row 30 [(Q132 a_succ), (.vsl 77 ((Q145 a_succ)).toNat)]), (77, .arr 1 22 (((Q145 a_succ)).toNat) (fun i_ => AV.eraseAll (fun n_ => memB n_ [2, 7, 77]) ((fun _ => [(.slice 0 0 (fun _ => []) .exact)]) i_)))], []⟩ : St) [(0 ≤ (Q145 a_succ) ∧ (Q145 a_succ) ≤ (Q145 a_succ) ∧ (Q145 a_succ) ≤ (room : Int))] hn mix (no_hand hΓ) (by kernel_rfl) ⟨hc17, trivial⟩ ?_
        refine awp_le (Le.trans (le_of (st' := (⟨(Q147 a_succ), [(2, .row 30 Q130), (7, .row 30 [(Q132 a_succ), (.vsl 77 ((Q145 a_succ)).toNat)]), (77, .arr 1 22 (((Q145 a_succ)).toNat) (rowF 1 eI64 (0 : Int) (Q136 a_succ) (fun _ => .exact)))], []⟩ : St)) (TmpsLe.refl _) (.same (.same (.arr fam_zero .nil)))) (Le.trans (Le.trans (le_birth (r := 77) (b := 70077) eI64 (0 : Int) (Q136 a_succ) 3 rfl rfl (List.length_replicate ..).symm (fun h_ => absurd h_ (by decide))) (le_eq (st' := (⟨(Q147 a_succ), [(2, .row 30 Q130), (7, .row 30 [(Q132 a_succ), (.vsl 77 ((Q145 a_succ)).toNat)]), (77, .arr 1 22 (((Q145 a_succ)).toNat) (rowF 1 eI64 (0 : Int) (Q136 a_succ) (Tag.fam 70077)))], [(70077, ⟨1, 3, famM (Q136 a_succ)⟩)]⟩ : St)) (by kernel_rfl))) (le_eq (congrArg (fun k_ : Nat => (⟨(Q147 a_succ), [(2, .row 30 Q130), (7, .row 30 [(Q132 a_succ), (.vsl 77 k_)]), (77, .arr 1 22 k_ (rowF 1 eI64 (0 : Int) (Q136 a_succ) (Tag.fam 70077)))], [(70077, ⟨1, 3, famM (Q136 a_succ)⟩)]⟩ : St)) (show ((Q145 a_succ)).toNat = (Q136 a_succ).length from (List.length_replicate ..).symm))))) ?_
        refine awp_seq ?_
        refine rgs0 (⟨[(0, (Q132 a_succ)), (2, (.ptr 2 0)), (4, (Q134 a_succ)), (7, (.ptr 7 0)), (8, (.int .i64 (0 : Int)))], [(2, .row 30 Q130), (7, .row 30 [(Q132 a_succ), (.vsl 77 (Q136 a_succ).length)]), (77, .arr 1 22 ((Q136 a_succ).length) (rowF 1 eI64 (0 : Int) (Q136 a_succ) (Tag.fam 70077)))], [(70077, ⟨1, 3, famM (Q136 a_succ)⟩)]⟩ : St) hn mix (no_hand hΓ) (by kernel_rfl) ?_
        refine awp_block ?_
        refine awp_le (st' := (fun ((i18, l19) : (Int × List (List (Int)))) => (⟨(Q148 a_succ i18), (Q143 a_succ l19), [(70077, ⟨1, 3, famM l19⟩)]⟩ : St)) ((0 : Int), (Q136 a_succ))) (Le.refl _ _) ?_
        obtain ⟨x35, hx35, h⟩ := bind_some h
        refine awp_loop (fun ((i18, l19) : (Int × List (List (Int)))) => (⟨(Q148 a_succ i18), (Q143 a_succ l19), [(70077, ⟨1, 3, famM l19⟩)]⟩ : St)) _ (fun (l20 : List (List (Int))) (e : Exit) (st : St) => e = (.exit 4) ∧ Le Γ st (⟨[(2, (.ptr 2 0)), (7, (.ptr 7 0))], [(2, .row 30 Q130), (7, .row 30 [(Q132 a_succ), (.vsl 77 l20.length)]), (77, .arr 1 22 l20.length (rowF 1 eI64 (0 : Int) l20 (Tag.fam 70077)))], [(70077, ⟨1, 3, famM l20⟩)]⟩ : St)) ?_ hx35 ?_
        · rintro ⟨i18, l19⟩ y h
          unfold m_lockstepref06_Make_L4 at h
          refine awp_seq ?_
          refine rgs0 (⟨[(0, (Q132 a_succ)), (2, (.ptr 2 0)), (4, (Q134 a_succ)), (7, (.ptr 7 0)), (8, (.int .i64 i18)), (81, (.bool (decide ((i18 : Int) < (Q145 a_succ)))))], (Q143 a_succ l19), [(70077, ⟨1, 3, famM l19⟩)]⟩ : St) hn mix (no_hand hΓ) (by kernel_rfl) ?_
          refine awp_cond (decide ((i18 : Int) < (Q145 a_succ))) (by kernel_rfl) (fun hb => ?_) (fun hb => ?_)
          · replace h := cond_t hb h
            clear hb
            refine awp_skip ?_
            refine then_normal ?_
            refine awp_seq ?_
            refine awp_block ?_
            refine rgs0 (⟨[(0, (Q132 a_succ)), (2, (.ptr 2 0)), (4, (Q134 a_succ)), (7, (.ptr 7 0)), (8, (.int .i64 i18)), (9, (.int .i64 (0 : Int)))], (Q143 a_succ l19), [(70077, ⟨1, 3, famM l19⟩)]⟩ : St) hn mix (no_hand hΓ) (by kernel_rfl) ?_
            refine awp_block ?_
            refine awp_le (st' := (fun ((i21, l22) : (Int × List (List (Int)))) => (⟨(Q142 a_succ i18 i21), (Q144 a_succ l22), [(70077, ⟨1, 3, famM l22⟩)]⟩ : St)) ((0 : Int), l19)) (Le.refl _ _) ?_
            obtain ⟨x33, hx33, h⟩ := bind_some h
            refine awp_loop (fun ((i21, l22) : (Int × List (List (Int)))) => (⟨(Q142 a_succ i18 i21), (Q144 a_succ l22), [(70077, ⟨1, 3, famM l22⟩)]⟩ : St)) _ (fun (l23 : List (List (Int))) (e : Exit) (st : St) => e = (.exit 6) ∧ Le Γ st (⟨(Q148 a_succ i18), [(2, .row 30 Q130), (7, .row 30 [(Q132 a_succ), (.vsl 77 l23.length)]), (77, .arr 1 22 l23.length (rowF 1 eI64 (0 : Int) l23 (Tag.fam 70077)))], [(70077, ⟨1, 3, famM l23⟩)]⟩ : St)) ?_ hx33 ?_
            · rintro ⟨i21, l22⟩ y h
              unfold m_lockstepref06_Make_L3 at h
              refine awp_seq ?_
              refine rgs0 (⟨[(0, (Q132 a_succ)), (2, (.ptr 2 0)), (4, (Q134 a_succ)), (7, (.ptr 7 0)), (8, (.int .i64 i18)), (9, (.int .i64 i21)), (86, (.bool (decide ((i21 : Int) < (Q145 a_succ)))))], (Q144 a_succ l22), [(70077, ⟨1, 3, famM l22⟩)]⟩ : St) hn mix (no_hand hΓ) (by kernel_rfl) ?_
              refine awp_cond (decide ((i21 : Int) < (Q145 a_succ))) (by kernel_rfl) (fun hb => ?_) (fun hb => ?_)
              · replace h := cond_t hb h
                clear hb
                refine awp_skip ?_
                refine then_normal ?_
                refine awp_seq ?_
                obtain ⟨x31, hx31, h⟩ := bind_some h
                refine awp_join (fun (l24 : List (List (Int))) (e : Exit) (st : St) => e = .normal ∧ Le Γ st (⟨(Q142 a_succ i18 i21), [(2, .row 30 Q130), (7, .row 30 [(Q132 a_succ), (.vsl 77 l24.length)]), (77, .arr 1 22 l24.length (rowF 1 eI64 (0 : Int) l24 (Tag.fam 70077)))], [(70077, ⟨1, 3, famM l24⟩)]⟩ : St)) hx31 ?_ ?_
                · clear h hx31
                  intro y h
                  refine awp_block ?_
                  obtain ⟨hc25, h⟩ := chk_some h
                  obtain ⟨x26, hx26, h⟩ := bind_some h
                  refine rgs [⟨[], [], (.bool x26), []⟩] [] (⟨[(0, (Q132 a_succ)), (2, (.ptr 2 0)), (4, (Q134 a_succ)), (7, (.ptr 7 0)), (8, (.int .i64 i18)), (9, (.int .i64 i21)), (94, (.bool x26))], (Q144 a_succ l22), [(70077, ⟨1, 3, famM l22⟩)]⟩ : St) [(InB i21 a_succ.length), (Spec Try.prog 24 [(AV.list 1 eI64 (0 : Int) (a_succ.getD (i21).toNat []) .none), (.int .i64 i18)] [] (.bool x26) [])] hn mix (no_hand hΓ) (by kernel_rfl) ⟨hc25, (ok_lockstepref06_Has (a_succ.getD (i21).toNat []) i18 x26 hx26), trivial⟩ ?_
                  refine awp_cond x26 (by kernel_rfl) (fun hb => ?_) (fun hb => ?_)
                  · replace h := cond_t hb h
                    clear hb
                    obtain ⟨hc27, h⟩ := chk_some h
                    obtain ⟨hc28, h⟩ := chk_some h
                    obtain ⟨hc29, h⟩ := chk_some h
                    obtain ⟨hc30, h⟩ := chk_some h
                    refine awp_le (Le.trans (le_take (r := 77) (b := 70077) (k := 60077) eI64 (0 : Int) l22 (i18).toNat 3 rfl rfl rfl rfl (inB_lit hc27) (by kernel_rfl) (.row (by kernel_rfl) (.row (by kernel_rfl) (.here .nil)))) (le_eq (st' := (⟨[(0, (Q132 a_succ)), (2, (.ptr 2 0)), (4, (Q134 a_succ)), (7, (.ptr 7 0)), (8, (.int .i64 i18)), (9, (.int .i64 i21)), (94, (.bool x26))], [(2, .row 30 Q130), (7, .row 30 [(Q132 a_succ), (.vsl 77 l22.length)]), (77, .arr 1 22 l22.length (rowF 1 eI64 (0 : Int) l22 (famTag 70077 (i18).toNat 60077))), (60077, .tok 1 3 ((l22.getD (i18).toNat []).length))], [(70077, ⟨1, 3, holeM l22 (i18).toNat⟩)]⟩ : St)) (by kernel_rfl))) ?_
                    refine rg [] [(102, (AV.list 1 eI64 (0 : Int) (l22.getD (i18).toNat []) (.own 60077))), (104, (AV.list 1 eI64 (0 : Int) ([i21] : List (Int)) .exact)), (105, (AV.list 1 eI64 (0 : Int) (Q137 l22 i18 i21) (.own 60077)))] (⟨(Q142 a_succ i18 i21), [(2, .row 30 Q130), (7, .row 30 [(Q132 a_succ), (.vsl 77 l22.length)]), (77, .arr 1 22 l22.length (fun i_ => AV.eraseAll (fun n_ => memB n_ [2, 7, 77, 60077, 70077]) ((putF (rowF 1 eI64 (0 : Int) l22 (famTag 70077 (i18).toNat 60077)) (i18).toNat 0 [(AV.list 1 eI64 (0 : Int) (Q137 l22 i18 i21) (.own 60077))]) i_))), (60077, .tok 1 3 ((Q137 l22 i18 i21).length))], [(70077, ⟨1, 3, holeM l22 (i18).toNat⟩)]⟩ : St) [(InB i18 l22.length), (l22.length = l22.length), (AVle (((rowF 1 eI64 (0 : Int) l22 (famTag 70077 (i18).toNat 60077)) (i18).toNat).getD 0 .any) (AV.list 1 eI64 (0 : Int) (l22.getD (i18).toNat []) (.own 60077))), (AVle (.slice 1 1 (fun i => ([[(.int .i64 i21)]] : List (List AV)).getD i []) .exact) (AV.list 1 eI64 (0 : Int) ([i21] : List (Int)) .exact)), ((l22.getD (i18).toNat []).length = (l22.getD (i18).toNat []).length), ((l22.getD (i18).toNat []).length + ([i21] : List (Int)).length ≤ room), (AVle (.slice 1 ((l22.getD (i18).toNat []).length + ([i21] : List (Int)).length) (appF (l22.getD (i18).toNat []).length (fun i => eI64 ((l22.getD (i18).toNat []).getD i (0 : Int))) (fun i => eI64 (([i21] : List (Int)).getD i (0 : Int)))) (.own 60077)) (AV.list 1 eI64 (0 : Int) (Q137 l22 i18 i21) (.own 60077))), ((l22.getD (i18).toNat []).length + ([i21] : List (Int)).length = (Q137 l22 i18 i21).length), (InB i18 l22.length), (l22.length = l22.length)] hn mix (no_hand hΓ) (by kernel_rfl) ⟨hc28, rfl, av_famtag, (av_lit rfl (fun i hi => map_get (e := eI64) (d := (0 : Int)) ([i21] : List (Int)) i hi)), rfl, hc29, av_app, (len_app _ _), hc30, rfl, trivial⟩ ?_
                    refine block_normal ?_
                    obtain rfl := Option.some.inj h
                    exact ⟨rfl, Le.trans (Le.trans (Le.trans (le_put (r := 77) (b := 70077) (k := 60077) eI64 (0 : Int) l22 (i18).toNat (Q137 l22 i18 i21) 3 rfl (putF_fam (inB_lit hc27) rfl rfl) rfl rfl rfl rfl (inB_lit hc27) (by kernel_rfl) (.row (by kernel_rfl) (.row (by kernel_rfl) (.here (.tok .nil)))) (by rw [hΓ]; rfl)) (le_eq (st' := (⟨(Q142 a_succ i18 i21), [(2, .row 30 Q130), (7, .row 30 [(Q132 a_succ), (.vsl 77 l22.length)]), (77, .arr 1 22 l22.length (rowF 1 eI64 (0 : Int) (l22.set (i18).toNat (Q137 l22 i18 i21)) (Tag.fam 70077)))], [(70077, ⟨1, 3, famM (l22.set (i18).toNat (Q137 l22 i18 i21))⟩)]⟩ : St)) (by kernel_rfl))) (le_eq (congrArg (fun k_ : Nat => (⟨(Q142 a_succ i18 i21), [(2, .row 30 Q130), (7, .row 30 [(Q132 a_succ), (.vsl 77 k_)]), (77, .arr 1 22 k_ (rowF 1 eI64 (0 : Int) (l22.set (i18).toNat (Q137 l22 i18 i21)) (Tag.fam 70077)))], [(70077, ⟨1, 3, famM (l22.set (i18).toNat (Q137 l22 i18 i21))⟩)]⟩ : St)) (show l22.length = (l22.set (i18).toNat (Q137 l22 i18 i21)).length from (List.length_set ..).symm)))) (Le.refl _ _)⟩
                  · replace h := cond_f hb h
                    clear hb
                    refine awp_skip ?_
                    refine block_normal ?_
                    obtain rfl := Option.some.inj h
                    exact ⟨rfl, le_restrict_eq [0, 2, 4, 7, 8, 9] [2, 7, 77, 70077] (by kernel_rfl) (no_hand hΓ)⟩
                · clear hx31
                  rintro e st' ⟨rfl, hl32⟩
                  refine then_normal ?_
                  refine awp_le hl32 ?_
                  refine rg0 (⟨[(0, (Q132 a_succ)), (2, (.ptr 2 0)), (4, (Q134 a_succ)), (7, (.ptr 7 0)), (8, (.int .i64 i18)), (9, (.int .i64 (w64 (i21 + (1 : Int)))))], [(2, .row 30 Q130), (7, .row 30 [(Q132 a_succ), (.vsl 77 x31.length)]), (77, .arr 1 22 x31.length (rowF 1 eI64 (0 : Int) x31 (Tag.fam 70077)))], [(70077, ⟨1, 3, famM x31⟩)]⟩ : St) hn mix (no_hand hΓ) (by kernel_rfl) ?_
                  obtain rfl := Option.some.inj h
                  exact ⟨rfl, Le.refl _ _⟩
              · replace h := cond_f hb h
                clear hb
                refine awp_exit ?_
                refine then_exit ?_
                obtain rfl := Option.some.inj h
                exact ⟨(by intro hh; cases hh), rfl, le_restrict_eq [0, 2, 4, 7, 8] [2, 7, 77, 70077] (by kernel_rfl) (no_hand hΓ)⟩
            · clear hx33
              rintro e st' ⟨rfl, hl34⟩
              refine block_here ?_
              refine block_normal ?_
              refine then_normal ?_
              refine awp_le hl34 ?_
              refine rg0 (⟨[(0, (Q132 a_succ)), (2, (.ptr 2 0)), (4, (Q134 a_succ)), (7, (.ptr 7 0)), (8, (.int .i64 (w64 (i18 + (1 : Int)))))], [(2, .row 30 Q130), (7, .row 30 [(Q132 a_succ), (.vsl 77 x33.length)]), (77, .arr 1 22 x33.length (rowF 1 eI64 (0 : Int) x33 (Tag.fam 70077)))], [(70077, ⟨1, 3, famM x33⟩)]⟩ : St) hn mix (no_hand hΓ) (by kernel_rfl) ?_
              obtain rfl := Option.some.inj h
              exact ⟨rfl, Le.refl _ _⟩
          · replace h := cond_f hb h
            clear hb
            refine awp_exit ?_
            refine then_exit ?_
            obtain rfl := Option.some.inj h
            exact ⟨(by intro hh; cases hh), rfl, le_restrict_eq [2, 7] [2, 7, 77, 70077] (by kernel_rfl) (no_hand hΓ)⟩
        · clear hx35
          rintro e st' ⟨rfl, hl36⟩
          refine block_here ?_
          refine then_normal ?_
          refine awp_le hl36 ?_
          refine rgs0 (⟨[(2, (.ptr 2 0)), (3, (.int .i64 (0 : Int)))], [(2, .row 30 [(Q132 a_succ), (.vsl 77 x35.length)]), (77, .arr 1 22 x35.length (rowF 1 eI64 (0 : Int) x35 (Tag.fam 70077)))], [(70077, ⟨1, 3, famM x35⟩)]⟩ : St) hn mix (no_hand hΓ) (by kernel_rfl) ?_
          refine awp_le (Le.trans (le_freeze (nm := 77) (sz := 1) (n := x35.length) (e := 22) (f := (rowF 1 eI64 (0 : Int) x35 (Tag.fam 70077))) (g := (fun i => eLI64 (x35.getD i []))) rfl ⟨rfl, trivial⟩ (fun _ _ => rfl) (by rw [hΓ]; rfl)) (le_restrict_eq (st' := (⟨[(2, (.ptr 2 0)), (3, (.int .i64 (0 : Int)))], [(2, .row 30 [(Q132 a_succ), (AV.list 1 eLI64 [] x35 (.own 77))]), (77, .tok 1 22 x35.length)], []⟩ : St)) [2, 3] [2, 77] (by kernel_rfl) (no_hand hΓ))) ?_
          refine awp_ret ?_
          obtain rfl := Option.some.inj h
          exact ⟨.inl rfl, [], by kernel_rfl⟩
      · rintro e st' ⟨rfl, hk⟩
        refine block_ret ?_
        refine then_ret ?_
        obtain rfl := Option.some.inj h
        exact hk

noncomputable def m_lockstepref06_Of_L1 (a_f : TFunc) (i2 : Int) : Int → Option (LR Int (Unit ⊕ (TGraph × Int))) :=
  fun (i6 : Int) => (bif (decide ((i6 : Int) < (((a_f.Blocks.getD (i2).toNat (default : TBlock)).End.To).length : Int))) then (chk (InB i6 ((a_f.Blocks.getD (i2).toNat (default : TBlock)).End.To).length) (chk (((decide (((((a_f.Blocks.getD (i2).toNat (default : TBlock)).End.To).getD (i6).toNat (0 : Int)) : Int) ≤ (0 : Int))) == false) = true → (InB i6 ((a_f.Blocks.getD (i2).toNat (default : TBlock)).End.To).length)) (bif (bif (decide (((((a_f.Blocks.getD (i2).toNat (default : TBlock)).End.To).getD (i6).toNat (0 : Int)) : Int) ≤ (0 : Int))) then true else (decide (((a_f.Blocks.length : Int) : Int) ≤ (((a_f.Blocks.getD (i2).toNat (default : TBlock)).End.To).getD (i6).toNat (0 : Int))))) then (some (.done (.inr ((⟨([] : List (List (Int))), ([] : List (List (Int)))⟩ : TGraph), (5 : Int))))) else (some (.next (w64 (i6 + (1 : Int)))))))) else (some (.done (.inl ()))))
noncomputable def m_lockstepref06_Of_L2 (a_f : TFunc) (i2 : Int) : (List (Int) × Int) → Option (LR (List (Int) × Int) (List (Int))) :=
  fun ((l11, i12) : (List (Int) × Int)) => (bif (decide ((i12 : Int) < (a_f.Blocks.length : Int))) then (Option.bind (α := List (Int)) ((m_lockstepref06_Has ((a_f.Blocks.getD (i2).toNat (default : TBlock)).End.To) i12).bind fun x15 => (bif x15 then (chk (l11.length + ([i12] : List (Int)).length ≤ room) (some ((l11 ++ ([i12] : List (Int)))))) else (some (l11)))) (fun x17 => ((some (.next (x17, (w64 (i12 + (1 : Int))))))))) else (some (.done l11)))
noncomputable def m_lockstepref06_Of_L3 (a_f : TFunc) : (List (List (Int)) × Int) → Option (LR (List (List (Int)) × Int) (List (List (Int)) ⊕ (TGraph × Int))) :=
  fun ((l1, i2) : (List (List (Int)) × Int)) => (bif (decide ((i2 : Int) < (a_f.Blocks.length : Int))) then (chk (InB i2 a_f.Blocks.length) (chk (((bif (decide (((a_f.Blocks.getD (i2).toNat (default : TBlock)).End.Kind : Int) < (0 : Int))) then true else (decide (((3 : Int) : Int) < (a_f.Blocks.getD (i2).toNat (default : TBlock)).End.Kind))) == false) = true → (InB (a_f.Blocks.getD (i2).toNat (default : TBlock)).End.Kind ([(0 : Int), (1 : Int), (2 : Int), (0 : Int)] : List (Int)).length)) (bif (bif (bif (decide (((a_f.Blocks.getD (i2).toNat (default : TBlock)).End.Kind : Int) < (0 : Int))) then true else (decide (((3 : Int) : Int) < (a_f.Blocks.getD (i2).toNat (default : TBlock)).End.Kind))) then true else (((((a_f.Blocks.getD (i2).toNat (default : TBlock)).End.To).length : Int) : Int) != (([(0 : Int), (1 : Int), (2 : Int), (0 : Int)] : List (Int)).getD ((a_f.Blocks.getD (i2).toNat (default : TBlock)).End.Kind).toNat (0 : Int)))) then (some (.done (.inr ((⟨([] : List (List (Int))), ([] : List (List (Int)))⟩ : TGraph), (5 : Int))))) else ((loopO (S := Int) (X := (Unit ⊕ (TGraph × Int))) (m_lockstepref06_Of_L1 a_f i2) (0 : Int)).bind (fun x9 => (match x9 with | (.inl _) => ((loopO (S := (List (Int) × Int)) (X := List (Int)) (m_lockstepref06_Of_L2 a_f i2) (([] : List Int), (1 : Int))).bind (fun x19 => ((chk (l1.length + ([x19] : List (List (Int))).length ≤ room) (some (.next ((l1 ++ ([x19] : List (List (Int)))), (w64 (i2 + (1 : Int)))))))))) | (.inr r22) => (some (.done (.inr r22))))))))) else (some (.done (.inl l1))))
noncomputable def Q163 := ((3 : Int) : Int)
noncomputable def Q172 (i12 : Int) := ([i12] : List (Int))
noncomputable def Q152 (a_f : TFunc) (i2 : Int) := (a_f.Blocks.getD (i2).toNat (default : TBlock))
noncomputable def Q165 (a_f : TFunc) (i2 : Int) := (bif (decide (((Q152 a_f i2).End.Kind : Int) < (0 : Int))) then true else (decide (Q163 < (Q152 a_f i2).End.Kind)))
noncomputable def Q175 (a_f : TFunc) (i2 : Int) := ((Q165 a_f i2) == false)
noncomputable def Q173 (a_f : TFunc) := (a_f.Blocks.length : Int)
noncomputable def Q161 (x19 : List (Int)) := ([x19] : List (List (Int)))
noncomputable def Q166 (a_f : TFunc) (i2 : Int) (i6 : Int) := (decide (((((Q152 a_f i2).End.To).getD (i6).toNat (0 : Int)) : Int) ≤ (0 : Int)))
noncomputable def Q176 (a_f : TFunc) (i2 : Int) (i6 : Int) := ((Q166 a_f i2 i6) == false)
noncomputable def Q157 (l1 : List (List (Int))) : AV := (AV.list 1 eLI64 [] l1 (.own 5005))
noncomputable def Q156 (a_f : TFunc) : AV := (.int .i64 (Q173 a_f))
noncomputable def Q153 (a_f : TFunc) : List AV := [(AV.list 1 eI64 (0 : Int) a_f.Params .none), (.int .i64 a_f.Ret), (AV.list 5 eTBlock (default : TBlock) a_f.Blocks .none)]
noncomputable def Q154 : List AV := [(.slice 0 0 (fun _ => []) .exact), (.slice 0 0 (fun _ => []) .exact)]
noncomputable def Q170 (a_f : TFunc) : List (Nat × Own) := [(1, .row 25 (Q153 a_f)), (2, .row 30 Q154)]
noncomputable def Q162 (a_f : TFunc) := (((Q173 a_f) : Int) == (0 : Int))
noncomputable def Q158 : AV := (AV.list 1 eI64 (0 : Int) ([] : List Int) .exact)
noncomputable def Q155 : AV := (AV.list 1 eLI64 [] ([] : List (List (Int))) .exact)
noncomputable def Q160 := ([(0 : Int), (1 : Int), (2 : Int), (0 : Int)] : List (Int))
noncomputable def Q169 (a_f : TFunc) (i2 : Int) := ((decide (((Q152 a_f i2).End.Kind : Int) < (0 : Int))) == false)
noncomputable def Q168 := (⟨[(2, (.ptr 2 0)), (3, (.int .i64 (5 : Int)))], [(2, .row 30 [Q155, Q155])], []⟩ : St)
noncomputable def Q174 (a_f : TFunc) (i2 : Int) : List AV := [(.int .i64 (Q152 a_f i2).End.Kind), (.int .i64 (Q152 a_f i2).End.Arg), (AV.list 1 eI64 (0 : Int) (Q152 a_f i2).End.To .none)]
noncomputable def Q180 (a_f : TFunc) (i2 : Int) := (bif (Q165 a_f i2) then true else (((((Q152 a_f i2).End.To).length : Int) : Int) != (Q160.getD ((Q152 a_f i2).End.Kind).toNat (0 : Int))))
noncomputable def Q171 (a_f : TFunc) (l1 : List (List (Int))) (i2 : Int) := (⟨[(1, (.ptr 1 0)), (2, (.ptr 2 0)), (4, (Q156 a_f)), (5, (Q157 l1)), (6, (.int .i64 i2))], [(1, .row 25 (Q153 a_f)), (2, .row 30 Q154), (5005, .tok 1 22 l1.length)], []⟩ : St)
noncomputable def Q164 (a_f : TFunc) (i2 : Int) (l1 : List (List (Int))) : List (Nat × Own) := [(1, .row 25 (Q153 a_f)), (2, .row 30 Q154), (7, .row 49 (Q174 a_f i2)), (5005, .tok 1 22 l1.length)]
noncomputable def Q179 (a_f : TFunc) (l1 : List (List (Int))) (i2 : Int) := (⟨[(1, (.ptr 1 0)), (2, (.ptr 2 0)), (4, (Q156 a_f)), (5, (Q157 l1)), (6, (.int .i64 i2)), (7, (.ptr 7 0)), (8, Q158), (10, (.int .i64 (1 : Int)))], (Q164 a_f i2 l1), []⟩ : St)
noncomputable def Q159 := (⟨[(2, (.ptr 2 0)), (3, (.int .i64 (5 : Int)))], [(2, .row 30 [(AV.list 1 eLI64 [] ([] : List (List (Int))) .none), (AV.list 1 eLI64 [] ([] : List (List (Int))) .none)])], []⟩ : St)
noncomputable def Q178 (a_f : TFunc) (l1 : List (List (Int))) (i2 : Int) := (fun (i6 : Int) => (⟨[(1, (.ptr 1 0)), (2, (.ptr 2 0)), (4, (Q156 a_f)), (5, (Q157 l1)), (6, (.int .i64 i2)), (7, (.ptr 7 0)), (8, Q158), (9, (.int .i64 i6))], (Q164 a_f i2 l1), []⟩ : St))
noncomputable def Q167 (a_f : TFunc) (i2 : Int) (l1 : List (List (Int))) (l11 : List (Int)) : List (Nat × Own) := [(1, .row 25 (Q153 a_f)), (2, .row 30 Q154), (7, .row 49 (Q174 a_f i2)), (5005, .tok 1 22 l1.length), (5008, .tok 1 3 l11.length)]
noncomputable def Q177 (a_f : TFunc) (l1 : List (List (Int))) (i2 : Int) (l11 : List (Int)) (i12 : Int) := (⟨[(1, (.ptr 1 0)), (2, (.ptr 2 0)), (4, (Q156 a_f)), (5, (Q157 l1)), (6, (.int .i64 i2)), (7, (.ptr 7 0)), (8, (AV.list 1 eI64 (0 : Int) l11 (.own 5008))), (10, (.int .i64 i12))], (Q167 a_f i2 l1 l11), []⟩ : St)
noncomputable def m_lockstepref06_Of (a_f : TFunc) : Option (TGraph × Int) :=
  (bif (bif (((a_f.Blocks.length : Int) : Int) == (0 : Int)) then true else (decide (((64 : Int) : Int) < (a_f.Blocks.length : Int)))) then (some ((⟨([] : List (List (Int))), ([] : List (List (Int)))⟩ : TGraph), (5 : Int))) else ((loopO (S := (List (List (Int)) × Int)) (X := (List (List (Int)) ⊕ (TGraph × Int))) (m_lockstepref06_Of_L3 a_f) (([] : List (List (Int))), (0 : Int))).bind (fun x23 => (match x23 with | (.inl l3) => ((m_lockstepref06_Make l3).bind fun x25 => (some (x25.1, x25.2))) | (.inr r26) => (some r26)))))
theorem ok_lockstepref06_Of (a_f : TFunc) (r : (TGraph × Int)) (h : m_lockstepref06_Of a_f = some r) : Spec Try.prog 12 [(.agg (eTFunc a_f))] [] (.tuple [(.agg (eTGraph r.1)), (.int .i64 r.2)]) [] := by
  refine spec_of_awp (fn := Try.f12) Try.func12 rfl rfl (by kernel_rfl) (fun Γ hn hΓ => ?_)
  have hn : Γ.n = 96 := hn
  unfold m_lockstepref06_Of at h
  refine rgs0 (⟨[(1, (.ptr 1 0)), (2, (.ptr 2 0))], (Q170 a_f), []⟩ : St) hn mix (no_hand hΓ) (by kernel_rfl) ?_
  refine rgs0 (⟨[(1, (.ptr 1 0)), (2, (.ptr 2 0)), (4, (Q156 a_f))], (Q170 a_f), []⟩ : St) hn mix (no_hand hΓ) (by kernel_rfl) ?_
  refine awp_seq ?_
  refine rgs [] [] (⟨[(1, (.ptr 1 0)), (2, (.ptr 2 0)), (4, (Q156 a_f)), (19, (.bool (bif (Q162 a_f) then true else (decide (((64 : Int) : Int) < (Q173 a_f))))))], (Q170 a_f), []⟩ : St) [(((Q162 a_f) == false) = true → ((Q162 a_f) == false) = true), ((Q162 a_f) = false → ((Q162 a_f) == false) = true)] hn mix (no_hand hΓ) (by kernel_rfl) ⟨(fun hg => hg), gF, trivial⟩ ?_
  refine awp_cond (bif (Q162 a_f) then true else (decide (((64 : Int) : Int) < (Q173 a_f)))) (by kernel_rfl) (fun hb => ?_) (fun hb => ?_)
  · replace h := cond_t hb h
    clear hb
    refine rgs [] [(20, (.agg [Q155, Q155]))] Q168 [(AVle (.agg Q154) (.agg [Q155, Q155]))] hn mix (no_hand hΓ) (by kernel_rfl) ⟨(AVle.agg (.cons av_nil (.cons av_nil .nil))), trivial⟩ ?_
    refine awp_le (st' := Q159) (Le.trans (le_restrict_eq (st' := Q168) [2, 3] [2] (by kernel_rfl) (no_hand hΓ)) (le_of (.cons (AVle.refl _) (.cons (AVle.refl _) .nil)) (.row (.cons AVle.untag (.cons AVle.untag .nil)) .nil))) ?_
    refine awp_ret ?_
    refine then_ret ?_
    obtain rfl := Option.some.inj h
    exact ⟨.inl rfl, [], by kernel_rfl⟩
  · replace h := cond_f hb h
    clear hb
    refine awp_skip ?_
    refine then_normal ?_
    refine rgs [] [(5, Q155)] (⟨[(1, (.ptr 1 0)), (2, (.ptr 2 0)), (4, (Q156 a_f)), (5, Q155)], (Q170 a_f), []⟩ : St) [(AVle (.slice 0 0 (fun _ => []) .exact) Q155)] hn mix (no_hand hΓ) (by kernel_rfl) ⟨av_nil, trivial⟩ ?_
    refine awp_seq ?_
    refine rgs0 (⟨[(1, (.ptr 1 0)), (2, (.ptr 2 0)), (4, (Q156 a_f)), (5, Q155), (6, (.int .i64 (0 : Int)))], (Q170 a_f), []⟩ : St) hn mix (no_hand hΓ) (by kernel_rfl) ?_
    refine awp_block ?_
    refine awp_le (st' := (fun ((l1, i2) : (List (List (Int)) × Int)) => (Q171 a_f l1 i2)) (([] : List (List (Int))), (0 : Int))) (Le.trans (le_restrict_eq (st' := (⟨[(1, (.ptr 1 0)), (2, (.ptr 2 0)), (4, (Q156 a_f)), (5, Q155), (6, (.int .i64 (0 : Int)))], (Q170 a_f), []⟩ : St)) [1, 2, 4, 5, 6] [1, 2] (by kernel_rfl) (no_hand hΓ)) (Le.trans (le_tag (t := 5) (nm := 5005) (sz' := 1) (fun i => eLI64 (([] : List (List (Int))).getD i [])) 22 rfl rfl (.inl ⟨rfl, rfl⟩) (fun h_ => absurd h_ (by decide))) (le_restrict_eq (st' := (⟨[(1, (.ptr 1 0)), (2, (.ptr 2 0)), (4, (Q156 a_f)), (5, (AV.list 1 eLI64 [] ([] : List (List (Int))) (.own 5005))), (6, (.int .i64 (0 : Int)))], [(1, .row 25 (Q153 a_f)), (2, .row 30 Q154), (5005, .tok 1 22 (([] : List (List (Int))).length))], []⟩ : St)) [1, 2, 4, 5, 6] [1, 2, 5005] (by kernel_rfl) (no_hand hΓ)))) ?_
    obtain ⟨x23, hx23, h⟩ := bind_some h
    refine awp_loop (fun ((l1, i2) : (List (List (Int)) × Int)) => (Q171 a_f l1 i2)) _ (fun (x_ : (List (List (Int)) ⊕ (TGraph × Int))) (e : Exit) (st : St) => match x_ with | (.inl l3) => e = (.exit 0) ∧ Le Γ st (⟨[(2, (.ptr 2 0)), (5, (AV.list 1 eLI64 [] l3 (.own 5005)))], [(2, .row 30 Q154), (5005, .tok 1 22 l3.length)], []⟩ : St) | (.inr r_) => e = .ret ∧ retK Try.prog Try.f12.results.toList [] (.tuple [(.agg (eTGraph r_.1)), (.int .i64 r_.2)]) [] e st) ?_ hx23 ?_
    · rintro ⟨l1, i2⟩ y h
      unfold m_lockstepref06_Of_L3 at h
      refine awp_seq ?_
      refine rgs0 (⟨[(1, (.ptr 1 0)), (2, (.ptr 2 0)), (4, (Q156 a_f)), (5, (Q157 l1)), (6, (.int .i64 i2)), (23, (.bool (decide ((i2 : Int) < (Q173 a_f)))))], [(1, .row 25 (Q153 a_f)), (2, .row 30 Q154), (5005, .tok 1 22 l1.length)], []⟩ : St) hn mix (no_hand hΓ) (by kernel_rfl) ?_
      refine awp_cond (decide ((i2 : Int) < (Q173 a_f))) (by kernel_rfl) (fun hb => ?_) (fun hb => ?_)
      · replace h := cond_t hb h
        clear hb
        refine awp_skip ?_
        refine then_normal ?_
        refine awp_seq ?_
        refine awp_block ?_
        obtain ⟨hc4, h⟩ := chk_some h
        refine rgs [] [] (⟨[(1, (.ptr 1 0)), (2, (.ptr 2 0)), (4, (Q156 a_f)), (5, (Q157 l1)), (6, (.int .i64 i2)), (7, (.ptr 7 0))], (Q164 a_f i2 l1), []⟩ : St) [(InB i2 a_f.Blocks.length)] hn mix (no_hand hΓ) (by kernel_rfl) ⟨hc4, trivial⟩ ?_
        refine awp_seq ?_
        obtain ⟨hc5, h⟩ := chk_some h
        refine rgs [] [(44, (AV.list 1 eI64 (0 : Int) Q160 .exact))] (⟨[(1, (.ptr 1 0)), (2, (.ptr 2 0)), (4, (Q156 a_f)), (5, (Q157 l1)), (6, (.int .i64 i2)), (7, (.ptr 7 0)), (50, (.bool (Q180 a_f i2)))], (Q164 a_f i2 l1), []⟩ : St) [((Q169 a_f i2) = true → (Q169 a_f i2) = true), ((Q169 a_f i2) = true → (Q169 a_f i2) = true), ((decide (((Q152 a_f i2).End.Kind : Int) < (0 : Int))) = false → (Q169 a_f i2) = true), ((Q175 a_f i2) = true → (Q175 a_f i2) = true), ((Q175 a_f i2) = true → (Q175 a_f i2) = true), ((Q175 a_f i2) = true → (AVle (.slice 1 4 (fun i => ([[(.int .i64 (0 : Int))], [(.int .i64 (1 : Int))], [(.int .i64 (2 : Int))], [(.int .i64 (0 : Int))]] : List (List AV)).getD i []) .exact) (AV.list 1 eI64 (0 : Int) Q160 .exact))), ((Q175 a_f i2) = true → (Q175 a_f i2) = true), ((Q175 a_f i2) = true → (Q175 a_f i2) = true), ((Q175 a_f i2) = true → (Q175 a_f i2) = true), ((Q175 a_f i2) = true → (InB (Q152 a_f i2).End.Kind Q160.length)), ((Q175 a_f i2) = true → (Q175 a_f i2) = true), ((Q175 a_f i2) = true → (Q175 a_f i2) = true), ((Q175 a_f i2) = true → (Q175 a_f i2) = true), ((Q165 a_f i2) = false → (Q175 a_f i2) = true)] hn mix (no_hand hΓ) (by kernel_rfl) ⟨(fun hg => hg), (fun hg => hg), gF, (fun hg => hg), (fun hg => hg), (fun hg => (av_lit rfl (fun i hi => map_get (e := eI64) (d := (0 : Int)) Q160 i hi))), (fun hg => hg), (fun hg => hg), (fun hg => hg), (fun hg => (hc5 hg)), (fun hg => hg), (fun hg => hg), (fun hg => hg), gF, trivial⟩ ?_
        refine awp_cond (Q180 a_f i2) (by kernel_rfl) (fun hb => ?_) (fun hb => ?_)
        · replace h := cond_t hb h
          clear hb
          refine rgs [] [(51, (.agg [Q155, Q155]))] Q168 [(AVle (.agg Q154) (.agg [Q155, Q155]))] hn mix (no_hand hΓ) (by kernel_rfl) ⟨(AVle.agg (.cons av_nil (.cons av_nil .nil))), trivial⟩ ?_
          refine awp_le (st' := Q159) (Le.trans (le_restrict_eq (st' := Q168) [2, 3] [2] (by kernel_rfl) (no_hand hΓ)) (le_of (.cons (AVle.refl _) (.cons (AVle.refl _) .nil)) (.row (.cons AVle.untag (.cons AVle.untag .nil)) .nil))) ?_
          refine awp_ret ?_
          refine then_ret ?_
          refine block_ret ?_
          refine then_ret ?_
          obtain rfl := Option.some.inj h
          exact ⟨(by intro hh; cases hh), rfl, ⟨.inl rfl, [], by kernel_rfl⟩⟩
        · replace h := cond_f hb h
          clear hb
          refine awp_skip ?_
          refine then_normal ?_
          refine rgs [] [(8, Q158)] (⟨[(1, (.ptr 1 0)), (2, (.ptr 2 0)), (4, (Q156 a_f)), (5, (Q157 l1)), (6, (.int .i64 i2)), (7, (.ptr 7 0)), (8, Q158)], (Q164 a_f i2 l1), []⟩ : St) [(AVle (.slice 0 0 (fun _ => []) .exact) Q158)] hn mix (no_hand hΓ) (by kernel_rfl) ⟨av_nil, trivial⟩ ?_
          refine awp_seq ?_
          refine rgs0 (⟨[(1, (.ptr 1 0)), (2, (.ptr 2 0)), (4, (Q156 a_f)), (5, (Q157 l1)), (6, (.int .i64 i2)), (7, (.ptr 7 0)), (8, Q158), (9, (.int .i64 (0 : Int)))], (Q164 a_f i2 l1), []⟩ : St) hn mix (no_hand hΓ) (by kernel_rfl) ?_
          refine awp_block ?_
          refine awp_le (st' := (Q178 a_f l1 i2) (0 : Int)) (Le.refl _ _) ?_
          obtain ⟨x9, hx9, h⟩ := bind_some h
          refine awp_loop (Q178 a_f l1 i2) _ (fun (x_ : (Unit ⊕ (TGraph × Int))) (e : Exit) (st : St) => match x_ with | (.inl _) => e = (.exit 2) ∧ Le Γ st (⟨[(1, (.ptr 1 0)), (2, (.ptr 2 0)), (4, (Q156 a_f)), (5, (Q157 l1)), (6, (.int .i64 i2)), (7, (.ptr 7 0)), (8, Q158)], (Q164 a_f i2 l1), []⟩ : St) | (.inr r_) => e = .ret ∧ retK Try.prog Try.f12.results.toList [] (.tuple [(.agg (eTGraph r_.1)), (.int .i64 r_.2)]) [] e st) ?_ hx9 ?_
          · intro i6 y h
            unfold m_lockstepref06_Of_L1 at h
            refine awp_seq ?_
            refine rgs0 (⟨[(1, (.ptr 1 0)), (2, (.ptr 2 0)), (4, (Q156 a_f)), (5, (Q157 l1)), (6, (.int .i64 i2)), (7, (.ptr 7 0)), (8, Q158), (9, (.int .i64 i6)), (56, (.bool (decide ((i6 : Int) < (((Q152 a_f i2).End.To).length : Int)))))], (Q164 a_f i2 l1), []⟩ : St) hn mix (no_hand hΓ) (by kernel_rfl) ?_
            refine awp_cond (decide ((i6 : Int) < (((Q152 a_f i2).End.To).length : Int))) (by kernel_rfl) (fun hb => ?_) (fun hb => ?_)
            · replace h := cond_t hb h
              clear hb
              refine awp_skip ?_
              refine then_normal ?_
              refine awp_seq ?_
              refine awp_block ?_
              obtain ⟨hc7, h⟩ := chk_some h
              obtain ⟨hc8, h⟩ := chk_some h
              refine rgs [] [] (⟨[(1, (.ptr 1 0)), (2, (.ptr 2 0)), (4, (Q156 a_f)), (5, (Q157 l1)), (6, (.int .i64 i2)), (7, (.ptr 7 0)), (8, Q158), (9, (.int .i64 i6)), (73, (.bool (bif (Q166 a_f i2 i6) then true else (decide (((Q173 a_f) : Int) ≤ (((Q152 a_f i2).End.To).getD (i6).toNat (0 : Int)))))))], (Q164 a_f i2 l1), []⟩ : St) [(InB i6 ((Q152 a_f i2).End.To).length), ((Q176 a_f i2 i6) = true → (Q176 a_f i2 i6) = true), ((Q176 a_f i2 i6) = true → (Q176 a_f i2 i6) = true), ((Q176 a_f i2 i6) = true → (Q176 a_f i2 i6) = true), ((Q176 a_f i2 i6) = true → (InB i6 ((Q152 a_f i2).End.To).length)), ((Q176 a_f i2 i6) = true → (Q176 a_f i2 i6) = true), ((Q176 a_f i2 i6) = true → (Q176 a_f i2 i6) = true), ((Q176 a_f i2 i6) = true → (Q176 a_f i2 i6) = true), ((Q166 a_f i2 i6) = false → (Q176 a_f i2 i6) = true)] hn mix (no_hand hΓ) (by kernel_rfl) ⟨hc7, (fun hg => hg), (fun hg => hg), (fun hg => hg), (fun hg => (hc8 hg)), (fun hg => hg), (fun hg => hg), (fun hg => hg), gF, trivial⟩ ?_
              refine awp_cond (bif (Q166 a_f i2 i6) then true else (decide (((Q173 a_f) : Int) ≤ (((Q152 a_f i2).End.To).getD (i6).toNat (0 : Int))))) (by kernel_rfl) (fun hb => ?_) (fun hb => ?_)
              · replace h := cond_t hb h
                clear hb
                refine rgs [] [(74, (.agg [Q155, Q155]))] Q168 [(AVle (.agg Q154) (.agg [Q155, Q155]))] hn mix (no_hand hΓ) (by kernel_rfl) ⟨(AVle.agg (.cons av_nil (.cons av_nil .nil))), trivial⟩ ?_
                refine awp_le (st' := Q159) (Le.trans (le_restrict_eq (st' := Q168) [2, 3] [2] (by kernel_rfl) (no_hand hΓ)) (le_of (.cons (AVle.refl _) (.cons (AVle.refl _) .nil)) (.row (.cons AVle.untag (.cons AVle.untag .nil)) .nil))) ?_
                refine awp_ret ?_
                refine block_ret ?_
                refine then_ret ?_
                obtain rfl := Option.some.inj h
                exact ⟨(by intro hh; cases hh), rfl, ⟨.inl rfl, [], by kernel_rfl⟩⟩
              · replace h := cond_f hb h
                clear hb
                refine awp_skip ?_
                refine block_normal ?_
                refine then_normal ?_
                refine rg0 (⟨[(1, (.ptr 1 0)), (2, (.ptr 2 0)), (4, (Q156 a_f)), (5, (Q157 l1)), (6, (.int .i64 i2)), (7, (.ptr 7 0)), (8, Q158), (9, (.int .i64 (w64 (i6 + (1 : Int)))))], (Q164 a_f i2 l1), []⟩ : St) hn mix (no_hand hΓ) (by kernel_rfl) ?_
                obtain rfl := Option.some.inj h
                exact ⟨rfl, Le.refl _ _⟩
            · replace h := cond_f hb h
              clear hb
              refine awp_exit ?_
              refine then_exit ?_
              obtain rfl := Option.some.inj h
              exact ⟨(by intro hh; cases hh), rfl, le_restrict_eq [1, 2, 4, 5, 6, 7, 8] [1, 2, 7, 5005] (by kernel_rfl) (no_hand hΓ)⟩
          · clear hx9
            rcases x9 with _ | r22
            · rintro e st' ⟨rfl, hl10⟩
              refine block_here ?_
              refine then_normal ?_
              refine awp_le hl10 ?_
              refine awp_seq ?_
              refine rgs0 (Q179 a_f l1 i2) hn mix (no_hand hΓ) (by kernel_rfl) ?_
              refine awp_block ?_
              refine awp_le (st' := (fun ((l11, i12) : (List (Int) × Int)) => (Q177 a_f l1 i2 l11 i12)) (([] : List Int), (1 : Int))) (Le.trans (le_restrict_eq (st' := (Q179 a_f l1 i2)) [1, 2, 4, 5, 6, 7, 8, 10] [1, 2, 7, 5005] (by kernel_rfl) (no_hand hΓ)) (Le.trans (le_tag (t := 8) (nm := 5008) (sz' := 1) (fun i => eI64 (([] : List Int).getD i (0 : Int))) 3 rfl rfl (.inl ⟨rfl, rfl⟩) (fun h_ => absurd h_ (by decide))) (le_restrict_eq (st' := (⟨[(1, (.ptr 1 0)), (2, (.ptr 2 0)), (4, (Q156 a_f)), (5, (Q157 l1)), (6, (.int .i64 i2)), (7, (.ptr 7 0)), (8, (AV.list 1 eI64 (0 : Int) ([] : List Int) (.own 5008))), (10, (.int .i64 (1 : Int)))], [(1, .row 25 (Q153 a_f)), (2, .row 30 Q154), (7, .row 49 (Q174 a_f i2)), (5005, .tok 1 22 l1.length), (5008, .tok 1 3 (([] : List Int).length))], []⟩ : St)) [1, 2, 4, 5, 6, 7, 8, 10] [1, 2, 7, 5005, 5008] (by kernel_rfl) (no_hand hΓ)))) ?_
              obtain ⟨x19, hx19, h⟩ := bind_some h
              refine awp_loop (fun ((l11, i12) : (List (Int) × Int)) => (Q177 a_f l1 i2 l11 i12)) _ (fun (l13 : List (Int)) (e : Exit) (st : St) => e = (.exit 4) ∧ Le Γ st (⟨[(1, (.ptr 1 0)), (2, (.ptr 2 0)), (4, (Q156 a_f)), (5, (Q157 l1)), (6, (.int .i64 i2)), (8, (AV.list 1 eI64 (0 : Int) l13 (.own 5008)))], [(1, .row 25 (Q153 a_f)), (2, .row 30 Q154), (5005, .tok 1 22 l1.length), (5008, .tok 1 3 l13.length)], []⟩ : St)) ?_ hx19 ?_
              · rintro ⟨l11, i12⟩ y h
                unfold m_lockstepref06_Of_L2 at h
                refine awp_seq ?_
                refine rgs0 (⟨[(1, (.ptr 1 0)), (2, (.ptr 2 0)), (4, (Q156 a_f)), (5, (Q157 l1)), (6, (.int .i64 i2)), (7, (.ptr 7 0)), (8, (AV.list 1 eI64 (0 : Int) l11 (.own 5008))), (10, (.int .i64 i12)), (77, (.bool (decide ((i12 : Int) < (Q173 a_f)))))], (Q167 a_f i2 l1 l11), []⟩ : St) hn mix (no_hand hΓ) (by kernel_rfl) ?_
                refine awp_cond (decide ((i12 : Int) < (Q173 a_f))) (by kernel_rfl) (fun hb => ?_) (fun hb => ?_)
                · replace h := cond_t hb h
                  clear hb
                  refine awp_skip ?_
                  refine then_normal ?_
                  refine awp_seq ?_
                  obtain ⟨x17, hx17, h⟩ := bind_some h
                  refine awp_join (fun (l14 : List (Int)) (e : Exit) (st : St) => e = .normal ∧ Le Γ st (⟨[(1, (.ptr 1 0)), (2, (.ptr 2 0)), (4, (Q156 a_f)), (5, (Q157 l1)), (6, (.int .i64 i2)), (7, (.ptr 7 0)), (8, (AV.list 1 eI64 (0 : Int) l14 (.own 5008))), (10, (.int .i64 i12))], [(1, .row 25 (Q153 a_f)), (2, .row 30 Q154), (7, .row 49 (Q174 a_f i2)), (5005, .tok 1 22 l1.length), (5008, .tok 1 3 l14.length)], []⟩ : St)) hx17 ?_ ?_
                  · clear h hx17
                    intro y h
                    refine awp_block ?_
                    obtain ⟨x15, hx15, h⟩ := bind_some h
                    refine rgs [⟨[], [], (.bool x15), []⟩] [] (⟨[(1, (.ptr 1 0)), (2, (.ptr 2 0)), (4, (Q156 a_f)), (5, (Q157 l1)), (6, (.int .i64 i2)), (7, (.ptr 7 0)), (8, (AV.list 1 eI64 (0 : Int) l11 (.own 5008))), (10, (.int .i64 i12)), (83, (.bool x15))], (Q167 a_f i2 l1 l11), []⟩ : St) [(Spec Try.prog 24 [(AV.list 1 eI64 (0 : Int) (Q152 a_f i2).End.To .none), (.int .i64 i12)] [] (.bool x15) [])] hn mix (no_hand hΓ) (by kernel_rfl) ⟨(ok_lockstepref06_Has ((Q152 a_f i2).End.To) i12 x15 hx15), trivial⟩ ?_
                    refine awp_cond x15 (by kernel_rfl) (fun hb => ?_) (fun hb => ?_)
                    · replace h := cond_t hb h
                      clear hb
                      obtain ⟨hc16, h⟩ := chk_some h
                      refine rg [] [(86, (AV.list 1 eI64 (0 : Int) (Q172 i12) .exact)), (87, (AV.list 1 eI64 (0 : Int) (l11 ++ (Q172 i12)) (.own 5008)))] (⟨[(1, (.ptr 1 0)), (2, (.ptr 2 0)), (4, (Q156 a_f)), (5, (Q157 l1)), (6, (.int .i64 i2)), (7, (.ptr 7 0)), (8, (AV.list 1 eI64 (0 : Int) (l11 ++ (Q172 i12)) (.own 5008))), (10, (.int .i64 i12))], [(1, .row 25 (Q153 a_f)), (2, .row 30 Q154), (7, .row 49 (Q174 a_f i2)), (5005, .tok 1 22 l1.length), (5008, .tok 1 3 ((l11 ++ (Q172 i12)).length))], []⟩ : St) [(AVle (.slice 1 1 (fun i => ([[(.int .i64 i12)]] : List (List AV)).getD i []) .exact) (AV.list 1 eI64 (0 : Int) (Q172 i12) .exact)), (l11.length = l11.length), (l11.length + (Q172 i12).length ≤ room), (AVle (.slice 1 (l11.length + (Q172 i12).length) (appF l11.length (fun i => eI64 (l11.getD i (0 : Int))) (fun i => eI64 ((Q172 i12).getD i (0 : Int)))) (.own 5008)) (AV.list 1 eI64 (0 : Int) (l11 ++ (Q172 i12)) (.own 5008))), (l11.length + (Q172 i12).length = (l11 ++ (Q172 i12)).length)] hn mix (no_hand hΓ) (by kernel_rfl) ⟨(av_lit rfl (fun i hi => map_get (e := eI64) (d := (0 : Int)) (Q172 i12) i hi)), rfl, hc16, av_app, (len_app _ _), trivial⟩ ?_
                      refine block_normal ?_
                      obtain rfl := Option.some.inj h
                      exact ⟨rfl, Le.refl _ _⟩
                    · replace h := cond_f hb h
                      clear hb
                      refine awp_skip ?_
                      refine block_normal ?_
                      obtain rfl := Option.some.inj h
                      exact ⟨rfl, le_restrict_eq [1, 2, 4, 5, 6, 7, 8, 10] [1, 2, 7, 5005, 5008] (by kernel_rfl) (no_hand hΓ)⟩
                  · clear hx17
                    rintro e st' ⟨rfl, hl18⟩
                    refine then_normal ?_
                    refine awp_le hl18 ?_
                    refine rg0 (⟨[(1, (.ptr 1 0)), (2, (.ptr 2 0)), (4, (Q156 a_f)), (5, (Q157 l1)), (6, (.int .i64 i2)), (7, (.ptr 7 0)), (8, (AV.list 1 eI64 (0 : Int) x17 (.own 5008))), (10, (.int .i64 (w64 (i12 + (1 : Int)))))], [(1, .row 25 (Q153 a_f)), (2, .row 30 Q154), (7, .row 49 (Q174 a_f i2)), (5005, .tok 1 22 l1.length), (5008, .tok 1 3 x17.length)], []⟩ : St) hn mix (no_hand hΓ) (by kernel_rfl) ?_
                    obtain rfl := Option.some.inj h
                    exact ⟨rfl, Le.refl _ _⟩
                · replace h := cond_f hb h
                  clear hb
                  refine awp_exit ?_
                  refine then_exit ?_
                  obtain rfl := Option.some.inj h
                  exact ⟨(by intro hh; cases hh), rfl, le_restrict_eq [1, 2, 4, 5, 6, 8] [1, 2, 5005, 5008] (by kernel_rfl) (no_hand hΓ)⟩
              · clear hx19
                rintro e st' ⟨rfl, hl20⟩
                refine block_here ?_
                refine then_normal ?_
                refine awp_le hl20 ?_
                obtain ⟨hc21, h⟩ := chk_some h
                refine rg [] [(90, (AV.list 1 eLI64 [] (Q161 x19) .exact)), (91, (AV.list 1 eLI64 [] (l1 ++ (Q161 x19)) (.own 5005)))] (⟨[(1, (.ptr 1 0)), (2, (.ptr 2 0)), (4, (Q156 a_f)), (5, (AV.list 1 eLI64 [] (l1 ++ (Q161 x19)) (.own 5005))), (6, (.int .i64 i2))], [(1, .row 25 (Q153 a_f)), (2, .row 30 Q154), (5005, .tok 1 22 ((l1 ++ (Q161 x19)).length))], []⟩ : St) [(AVle (.slice 1 1 (fun i => ([[(AV.list 1 eI64 (0 : Int) x19 .none)]] : List (List AV)).getD i []) .exact) (AV.list 1 eLI64 [] (Q161 x19) .exact)), (l1.length = l1.length), (l1.length + (Q161 x19).length ≤ room), (AVle (.slice 1 (l1.length + (Q161 x19).length) (appF l1.length (fun i => eLI64 (l1.getD i [])) (fun i => eLI64 ((Q161 x19).getD i []))) (.own 5005)) (AV.list 1 eLI64 [] (l1 ++ (Q161 x19)) (.own 5005))), (l1.length + (Q161 x19).length = (l1 ++ (Q161 x19)).length)] hn mix (no_hand hΓ) (by kernel_rfl) ⟨(av_lit rfl (fun i hi => map_get (e := eLI64) (d := []) (Q161 x19) i hi)), rfl, hc21, av_app, (len_app _ _), trivial⟩ ?_
                refine block_normal ?_
                refine then_normal ?_
                refine rg0 (⟨[(1, (.ptr 1 0)), (2, (.ptr 2 0)), (4, (Q156 a_f)), (5, (AV.list 1 eLI64 [] (l1 ++ (Q161 x19)) (.own 5005))), (6, (.int .i64 (w64 (i2 + (1 : Int)))))], [(1, .row 25 (Q153 a_f)), (2, .row 30 Q154), (5005, .tok 1 22 ((l1 ++ (Q161 x19)).length))], []⟩ : St) hn mix (no_hand hΓ) (by kernel_rfl) ?_
                obtain rfl := Option.some.inj h
                exact ⟨rfl, Le.refl _ _⟩
            · rintro e st' ⟨rfl, hk⟩
              refine block_ret ?_
              refine then_ret ?_
              refine block_ret ?_
              refine then_ret ?_
              obtain rfl := Option.some.inj h
              exact ⟨(by intro hh; cases hh), rfl, hk⟩
      · replace h := cond_f hb h
        clear hb
        refine awp_exit ?_
        refine then_exit ?_
        obtain rfl := Option.some.inj h
        exact ⟨(by intro hh; cases hh), rfl, le_restrict_eq [2, 5] [2, 5005] (by kernel_rfl) (no_hand hΓ)⟩
    · clear hx23
      rcases x23 with l3 | r26
      · rintro e st' ⟨rfl, hl24⟩
        refine block_here ?_
        refine then_normal ?_
        refine awp_le hl24 ?_
        obtain ⟨x25, hx25, h⟩ := bind_some h
        refine rgs [⟨[], [], (.tuple [(.agg (eTGraph x25.1)), (.int .i64 x25.2)]), []⟩] [] (⟨[(2, (.ptr 2 0)), (3, (.int .i64 x25.2))], [(2, .row 30 [(AV.list 1 eLI64 [] x25.1.Succ .none), (AV.list 1 eLI64 [] x25.1.Pred .none)])], []⟩ : St) [(Spec Try.prog 17 [(AV.list 1 eLI64 [] l3 .none)] [] (.tuple [(.agg (eTGraph x25.1)), (.int .i64 x25.2)]) [])] hn mix (no_hand hΓ) (by kernel_rfl) ⟨(ok_lockstepref06_Make l3 x25 hx25), trivial⟩ ?_
        refine awp_ret ?_
        obtain rfl := Option.some.inj h
        exact ⟨.inl rfl, [], by kernel_rfl⟩
      · rintro e st' ⟨rfl, hk⟩
        refine block_ret ?_
        refine then_ret ?_
        obtain rfl := Option.some.inj h
        exact hk
end Go.Proofs.Ytcpopeamoipjlaa
