/-
  The machine, the program's functions and the laws' arithmetic: part 4 of 6.
-/
import Derived.Test.YtlnggndmojdcaaaPk3
import Derived.Test.YtlnggndmojdcaaaProg
set_option linter.unusedVariables false
set_option linter.unusedSimpArgs false
namespace Go.Proofs.Ytlnggndmojdcaaa
open Go Go.RowKit
set_option linter.unusedVariables false
set_option maxRecDepth 100000
set_option maxHeartbeats 2000000
def eI64 (x : Int) : List AV := [(.int .i64 x)]
def eLI64 (x : List (Int)) : List AV := [(AV.list 1 eI64 (0 : Int) x .none)]
def eLLI64 (x : List (List (Int))) : List AV := [(AV.list 1 eLI64 [] x .none)]
structure TGraph where
  Succ : List (List (Int))
  Pred : List (List (Int))
  deriving Inhabited, DecidableEq
def eTGraph (x : TGraph) : List AV := [(AV.list 1 eLI64 [] x.Succ .none), (AV.list 1 eLI64 [] x.Pred .none)]
def eB (x : Bool) : List AV := [(.bool x)]
def eLB (x : List (Bool)) : List AV := [(AV.list 1 eB false x .none)]
theorem mix : Try.prog.follows .mixedOrders = true := by kernel_rfl
noncomputable def m_graph_isCount (a_n : Int) : Option Bool :=
  (some (bif (decide (((1 : Int) : Int) ≤ a_n)) then (decide ((a_n : Int) ≤ (64 : Int))) else false))
theorem ok_graph_isCount (a_n : Int) (r : Bool) (h : m_graph_isCount a_n = some r) : Spec Try.prog 37 [(.int .i64 a_n)] [] (.bool r) [] := by
  refine spec_of_awp (fn := Try.f37) Try.func37 rfl rfl (by kernel_rfl) (fun Γ hn hΓ => ?_)
  have hn : Γ.n = 9 := hn
  unfold m_graph_isCount at h
  refine rgs0 (⟨[(0, (.int .i64 a_n))], [], []⟩ : St) hn mix (no_hand hΓ) (by kernel_rfl) ?_
  refine rgs [] [] (⟨[(2, (.bool (bif (decide (((1 : Int) : Int) ≤ a_n)) then (decide ((a_n : Int) ≤ (64 : Int))) else false)))], [], []⟩ : St) [(((decide (((1 : Int) : Int) ≤ a_n)) == true) = true → ((decide (((1 : Int) : Int) ≤ a_n)) == true) = true), ((decide (((1 : Int) : Int) ≤ a_n)) = true → ((decide (((1 : Int) : Int) ≤ a_n)) == true) = true)] hn mix (no_hand hΓ) (by kernel_rfl) ⟨(fun hg => hg), gT, trivial⟩ ?_
  refine awp_ret ?_
  obtain rfl := Option.some.inj h
  exact ⟨.inl rfl, [], by kernel_rfl⟩

noncomputable def Q1 (a_at : Int) := (decide (((0 : Int) : Int) ≤ a_at))
noncomputable def m_graph_isPlace (a_at : Int) (a_n : Int) : Option Bool :=
  (some (bif (decide (((0 : Int) : Int) ≤ a_at)) then (decide ((a_at : Int) < a_n)) else false))
theorem ok_graph_isPlace (a_at : Int) (a_n : Int) (r : Bool) (h : m_graph_isPlace a_at a_n = some r) : Spec Try.prog 35 [(.int .i64 a_at), (.int .i64 a_n)] [] (.bool r) [] := by
  refine spec_of_awp (fn := Try.f35) Try.func35 rfl rfl (by kernel_rfl) (fun Γ hn hΓ => ?_)
  have hn : Γ.n = 12 := hn
  unfold m_graph_isPlace at h
  refine rgs0 (⟨[(0, (.int .i64 a_at)), (1, (.int .i64 a_n))], [], []⟩ : St) hn mix (no_hand hΓ) (by kernel_rfl) ?_
  refine rgs [] [] (⟨[(4, (.bool (bif (Q1 a_at) then (decide ((a_at : Int) < a_n)) else false)))], [], []⟩ : St) [(((Q1 a_at) == true) = true → ((Q1 a_at) == true) = true), (((Q1 a_at) == true) = true → ((Q1 a_at) == true) = true), ((Q1 a_at) = true → ((Q1 a_at) == true) = true)] hn mix (no_hand hΓ) (by kernel_rfl) ⟨(fun hg => hg), (fun hg => hg), gT, trivial⟩ ?_
  refine awp_ret ?_
  obtain rfl := Option.some.inj h
  exact ⟨.inl rfl, [], by kernel_rfl⟩

noncomputable def m_graph_succMay_L1 (a_succ : List (List (Int))) (i2 : Int) : (Int × Int) → Option (LR (Int × Int) (Unit ⊕ Bool)) :=
  fun ((i4, i5) : (Int × Int)) => (bif (decide ((i5 : Int) < ((a_succ.getD (i2).toNat []).length : Int))) then (chk (InB i5 (a_succ.getD (i2).toNat []).length) ((bif ((decide ((((a_succ.getD (i2).toNat []).getD (i5).toNat (0 : Int)) : Int) ≤ i4)) == false) then m_graph_isPlace ((a_succ.getD (i2).toNat []).getD (i5).toNat (0 : Int)) (a_succ.length : Int) else some false).bind fun x7 => (bif (bif (decide ((((a_succ.getD (i2).toNat []).getD (i5).toNat (0 : Int)) : Int) ≤ i4)) then true else (!x7)) then (some (.done (.inr false))) else (some (.next (((a_succ.getD (i2).toNat []).getD (i5).toNat (0 : Int)), (w64 (i5 + (1 : Int))))))))) else (some (.done (.inl ()))))
noncomputable def m_graph_succMay_L2 (a_succ : List (List (Int))) : Int → Option (LR Int (Unit ⊕ Bool)) :=
  fun (i2 : Int) => (bif (decide ((i2 : Int) < (a_succ.length : Int))) then (chk (InB i2 a_succ.length) ((loopO (S := (Int × Int)) (X := (Unit ⊕ Bool)) (m_graph_succMay_L1 a_succ i2) ((-1 : Int), (0 : Int))).bind (fun x8 => (match x8 with | (.inl _) => (some (.next (w64 (i2 + (1 : Int))))) | (.inr r10) => (some (.done (.inr r10))))))) else (some (.done (.inl ()))))
noncomputable def Q3 (a_succ : List (List (Int))) : AV := (AV.list 1 eLI64 [] a_succ .none)
noncomputable def Q5 (a_succ : List (List (Int))) : AV := (.int .i64 (a_succ.length : Int))
noncomputable def Q6 (a_succ : List (List (Int))) (i2 : Int) : AV := (.int .i64 ((a_succ.getD (i2).toNat []).length : Int))
noncomputable def Q4 (a_succ : List (List (Int))) (i2 : Int) : AV := (AV.list 1 eI64 (0 : Int) (a_succ.getD (i2).toNat []) .none)
noncomputable def Q7 (a_succ : List (List (Int))) (i2 : Int) (i5 : Int) : AV := (.int .i64 ((a_succ.getD (i2).toNat []).getD (i5).toNat (0 : Int)))
noncomputable def Q2 (a_succ : List (List (Int))) (i2 : Int) (i5 : Int) (i4 : Int) := (decide ((((a_succ.getD (i2).toNat []).getD (i5).toNat (0 : Int)) : Int) ≤ i4))
noncomputable def Q8 (a_succ : List (List (Int))) (i2 : Int) := (⟨[(0, (Q3 a_succ)), (12, (Q3 a_succ)), (13, (Q5 a_succ)), (14, (.int .i64 i2))], [], []⟩ : St)
noncomputable def Q9 (a_succ : List (List (Int))) (i4 : Int) (i2 : Int) (i5 : Int) := (⟨[(0, (Q3 a_succ)), (5, (.int .i64 i4)), (12, (Q3 a_succ)), (13, (Q5 a_succ)), (14, (.int .i64 i2)), (18, (Q4 a_succ i2)), (19, (Q6 a_succ i2)), (20, (.int .i64 i5))], [], []⟩ : St)
noncomputable def m_graph_succMay (a_succ : List (List (Int))) : Option Bool :=
  ((m_graph_isCount (a_succ.length : Int)).bind fun x1 => (bif (!x1) then (some false) else ((loopO (S := Int) (X := (Unit ⊕ Bool)) (m_graph_succMay_L2 a_succ) (0 : Int)).bind (fun x11 => (match x11 with | (.inl _) => (some true) | (.inr r13) => (some r13))))))
theorem ok_graph_succMay (a_succ : List (List (Int))) (r : Bool) (h : m_graph_succMay a_succ = some r) : Spec Try.prog 24 [(AV.list 1 eLI64 [] a_succ .none)] [] (.bool r) [] := by
  refine spec_of_awp (fn := Try.f24) Try.func24 rfl rfl (by kernel_rfl) (fun Γ hn hΓ => ?_)
  have hn : Γ.n = 37 := hn
  unfold m_graph_succMay at h
  refine rgs0 (⟨[(0, (Q3 a_succ))], [], []⟩ : St) hn mix (no_hand hΓ) (by kernel_rfl) ?_
  refine awp_seq ?_
  obtain ⟨x1, hx1, h⟩ := bind_some h
  refine rgs [⟨[], [], (.bool x1), []⟩] [] (⟨[(0, (Q3 a_succ)), (11, (.bool (!x1)))], [], []⟩ : St) [(Spec Try.prog 37 [(Q5 a_succ)] [] (.bool x1) [])] hn mix (no_hand hΓ) (by kernel_rfl) ⟨(ok_graph_isCount (a_succ.length : Int) x1 hx1), trivial⟩ ?_
  refine awp_cond (!x1) (by kernel_rfl) (fun hb => ?_) (fun hb => ?_)
  · replace h := cond_t hb h
    clear hb
    refine rgs0 (⟨[(2, (.bool false))], [], []⟩ : St) hn mix (no_hand hΓ) (by kernel_rfl) ?_
    refine awp_ret ?_
    refine then_ret ?_
    obtain rfl := Option.some.inj h
    exact ⟨.inl rfl, [], by kernel_rfl⟩
  · replace h := cond_f hb h
    clear hb
    refine awp_skip ?_
    refine then_normal ?_
    refine awp_seq ?_
    refine rgs0 (⟨[(0, (Q3 a_succ)), (12, (Q3 a_succ)), (13, (Q5 a_succ)), (14, (.int .i64 (0 : Int)))], [], []⟩ : St) hn mix (no_hand hΓ) (by kernel_rfl) ?_
    refine awp_block ?_
    refine awp_le (st' := (fun (i2 : Int) => (Q8 a_succ i2)) (0 : Int)) (Le.refl _ _) ?_
    obtain ⟨x11, hx11, h⟩ := bind_some h
    refine awp_loop (fun (i2 : Int) => (Q8 a_succ i2)) _ (fun (x_ : (Unit ⊕ Bool)) (e : Exit) (st : St) => match x_ with | (.inl _) => e = (.exit 0) ∧ Le Γ st (⟨[], [], []⟩ : St) | (.inr r_) => e = .ret ∧ retK Try.prog Try.f24.results.toList [] (.bool r_) [] e st) ?_ hx11 ?_
    · intro i2 y h
      unfold m_graph_succMay_L2 at h
      refine rgs0 (⟨[(0, (Q3 a_succ)), (12, (Q3 a_succ)), (13, (Q5 a_succ)), (14, (.int .i64 i2)), (15, (.bool (decide ((i2 : Int) < (a_succ.length : Int)))))], [], []⟩ : St) hn mix (no_hand hΓ) (by kernel_rfl) ?_
      refine awp_seq ?_
      refine awp_cond (decide ((i2 : Int) < (a_succ.length : Int))) (by kernel_rfl) (fun hb => ?_) (fun hb => ?_)
      · replace h := cond_t hb h
        clear hb
        refine awp_skip ?_
        refine then_normal ?_
        refine awp_seq ?_
        refine awp_block ?_
        obtain ⟨hc3, h⟩ := chk_some h
        refine rgs [] [] (⟨[(0, (Q3 a_succ)), (4, (Q4 a_succ i2)), (12, (Q3 a_succ)), (13, (Q5 a_succ)), (14, (.int .i64 i2))], [], []⟩ : St) [(InB i2 a_succ.length)] hn mix (no_hand hΓ) (by kernel_rfl) ⟨hc3, trivial⟩ ?_
        refine rgs0 (⟨[(0, (Q3 a_succ)), (4, (Q4 a_succ i2)), (5, (.int .i64 (-1 : Int))), (12, (Q3 a_succ)), (13, (Q5 a_succ)), (14, (.int .i64 i2))], [], []⟩ : St) hn mix (no_hand hΓ) (by kernel_rfl) ?_
        refine rgs0 (⟨[(0, (Q3 a_succ)), (5, (.int .i64 (-1 : Int))), (12, (Q3 a_succ)), (13, (Q5 a_succ)), (14, (.int .i64 i2)), (18, (Q4 a_succ i2)), (19, (Q6 a_succ i2)), (20, (.int .i64 (0 : Int)))], [], []⟩ : St) hn mix (no_hand hΓ) (by kernel_rfl) ?_
        refine awp_block ?_
        refine awp_le (st' := (fun ((i4, i5) : (Int × Int)) => (Q9 a_succ i4 i2 i5)) ((-1 : Int), (0 : Int))) (Le.refl _ _) ?_
        obtain ⟨x8, hx8, h⟩ := bind_some h
        refine awp_loop (fun ((i4, i5) : (Int × Int)) => (Q9 a_succ i4 i2 i5)) _ (fun (x_ : (Unit ⊕ Bool)) (e : Exit) (st : St) => match x_ with | (.inl _) => e = (.exit 2) ∧ Le Γ st (Q8 a_succ i2) | (.inr r_) => e = .ret ∧ retK Try.prog Try.f24.results.toList [] (.bool r_) [] e st) ?_ hx8 ?_
        · rintro ⟨i4, i5⟩ y h
          unfold m_graph_succMay_L1 at h
          refine rgs0 (⟨[(0, (Q3 a_succ)), (5, (.int .i64 i4)), (12, (Q3 a_succ)), (13, (Q5 a_succ)), (14, (.int .i64 i2)), (18, (Q4 a_succ i2)), (19, (Q6 a_succ i2)), (20, (.int .i64 i5)), (21, (.bool (decide ((i5 : Int) < ((a_succ.getD (i2).toNat []).length : Int)))))], [], []⟩ : St) hn mix (no_hand hΓ) (by kernel_rfl) ?_
          refine awp_seq ?_
          refine awp_cond (decide ((i5 : Int) < ((a_succ.getD (i2).toNat []).length : Int))) (by kernel_rfl) (fun hb => ?_) (fun hb => ?_)
          · replace h := cond_t hb h
            clear hb
            refine awp_skip ?_
            refine then_normal ?_
            refine awp_seq ?_
            refine awp_block ?_
            obtain ⟨hc6, h⟩ := chk_some h
            refine rgs [] [] (⟨[(0, (Q3 a_succ)), (5, (.int .i64 i4)), (7, (Q7 a_succ i2 i5)), (12, (Q3 a_succ)), (13, (Q5 a_succ)), (14, (.int .i64 i2)), (18, (Q4 a_succ i2)), (19, (Q6 a_succ i2)), (20, (.int .i64 i5))], [], []⟩ : St) [(InB i5 (a_succ.getD (i2).toNat []).length)] hn mix (no_hand hΓ) (by kernel_rfl) ⟨hc6, trivial⟩ ?_
            refine awp_seq ?_
            obtain ⟨x7, hx7, h⟩ := bind_some h
            refine rgs [⟨[], [], (.bool x7), []⟩] [] (⟨[(0, (Q3 a_succ)), (7, (Q7 a_succ i2 i5)), (12, (Q3 a_succ)), (13, (Q5 a_succ)), (14, (.int .i64 i2)), (18, (Q4 a_succ i2)), (19, (Q6 a_succ i2)), (20, (.int .i64 i5)), (33, (.bool (bif (Q2 a_succ i2 i5 i4) then true else (!x7))))], [], []⟩ : St) [(((Q2 a_succ i2 i5 i4) == false) = true → ((Q2 a_succ i2 i5 i4) == false) = true), (((Q2 a_succ i2 i5 i4) == false) = true → ((Q2 a_succ i2 i5 i4) == false) = true), (((Q2 a_succ i2 i5 i4) == false) = true → ((Q2 a_succ i2 i5 i4) == false) = true), (((Q2 a_succ i2 i5 i4) == false) = true → (Spec Try.prog 35 [(Q7 a_succ i2 i5), (Q5 a_succ)] [] (.bool x7) [])), (((Q2 a_succ i2 i5 i4) == false) = true → ((Q2 a_succ i2 i5 i4) == false) = true), ((Q2 a_succ i2 i5 i4) = false → ((Q2 a_succ i2 i5 i4) == false) = true)] hn mix (no_hand hΓ) (by kernel_rfl) ⟨(fun hg => hg), (fun hg => hg), (fun hg => hg), (fun hg => (ok_graph_isPlace ((a_succ.getD (i2).toNat []).getD (i5).toNat (0 : Int)) (a_succ.length : Int) x7 (cond_t hg hx7))), (fun hg => hg), gF, trivial⟩ ?_
            refine awp_cond (bif (Q2 a_succ i2 i5 i4) then true else (!x7)) (by kernel_rfl) (fun hb => ?_) (fun hb => ?_)
            · replace h := cond_t hb h
              clear hb
              refine rgs0 (⟨[(2, (.bool false))], [], []⟩ : St) hn mix (no_hand hΓ) (by kernel_rfl) ?_
              refine awp_ret ?_
              refine then_ret ?_
              refine block_ret ?_
              refine then_ret ?_
              obtain rfl := Option.some.inj h
              exact ⟨(by intro hh; cases hh), rfl, ⟨.inl rfl, [], by kernel_rfl⟩⟩
            · replace h := cond_f hb h
              clear hb
              refine awp_skip ?_
              refine then_normal ?_
              refine rg0 (⟨[(0, (Q3 a_succ)), (5, (Q7 a_succ i2 i5)), (12, (Q3 a_succ)), (13, (Q5 a_succ)), (14, (.int .i64 i2)), (18, (Q4 a_succ i2)), (19, (Q6 a_succ i2)), (20, (.int .i64 i5))], [], []⟩ : St) hn mix (no_hand hΓ) (by kernel_rfl) ?_
              refine block_normal ?_
              refine then_normal ?_
              refine rg0 (⟨[(0, (Q3 a_succ)), (5, (Q7 a_succ i2 i5)), (12, (Q3 a_succ)), (13, (Q5 a_succ)), (14, (.int .i64 i2)), (18, (Q4 a_succ i2)), (19, (Q6 a_succ i2)), (20, (.int .i64 (w64 (i5 + (1 : Int)))))], [], []⟩ : St) hn mix (no_hand hΓ) (by kernel_rfl) ?_
              obtain rfl := Option.some.inj h
              exact ⟨rfl, Le.refl _ _⟩
          · replace h := cond_f hb h
            clear hb
            refine awp_exit ?_
            refine then_exit ?_
            obtain rfl := Option.some.inj h
            exact ⟨(by intro hh; cases hh), rfl, le_restrict_eq [0, 12, 13, 14] [] (by kernel_rfl) (no_hand hΓ)⟩
        · clear hx8
          rcases x8 with _ | r10
          · rintro e st' ⟨rfl, hl9⟩
            refine block_here ?_
            refine block_normal ?_
            refine then_normal ?_
            refine awp_le hl9 ?_
            refine rg0 (⟨[(0, (Q3 a_succ)), (12, (Q3 a_succ)), (13, (Q5 a_succ)), (14, (.int .i64 (w64 (i2 + (1 : Int)))))], [], []⟩ : St) hn mix (no_hand hΓ) (by kernel_rfl) ?_
            obtain rfl := Option.some.inj h
            exact ⟨rfl, Le.refl _ _⟩
          · rintro e st' ⟨rfl, hk⟩
            refine block_ret ?_
            refine block_ret ?_
            refine then_ret ?_
            obtain rfl := Option.some.inj h
            exact ⟨(by intro hh; cases hh), rfl, hk⟩
      · replace h := cond_f hb h
        clear hb
        refine awp_exit ?_
        refine then_exit ?_
        obtain rfl := Option.some.inj h
        exact ⟨(by intro hh; cases hh), rfl, le_restrict_eq [] [] (by kernel_rfl) (no_hand hΓ)⟩
    · clear hx11
      rcases x11 with _ | r13
      · rintro e st' ⟨rfl, hl12⟩
        refine block_here ?_
        refine then_normal ?_
        refine awp_le hl12 ?_
        refine rgs0 (⟨[(2, (.bool true))], [], []⟩ : St) hn mix (no_hand hΓ) (by kernel_rfl) ?_
        refine awp_ret ?_
        obtain rfl := Option.some.inj h
        exact ⟨.inl rfl, [], by kernel_rfl⟩
      · rintro e st' ⟨rfl, hk⟩
        refine block_ret ?_
        refine then_ret ?_
        obtain rfl := Option.some.inj h
        exact hk

noncomputable def Q10 : AV := (AV.list 1 eI64 (0 : Int) ([] : List Int) .exact)
noncomputable def Q11 := (⟨[(2, (AV.list 1 eI64 (0 : Int) ([] : List Int) (.own 6002)))], [(6002, .tok 1 3 (([] : List Int).length))], []⟩ : St)
noncomputable def m_slices_Clone_int_int (a_s : List (Int)) : Option (List (Int)) :=
  (chk (([] : List Int).length + a_s.length ≤ room) (some (([] : List Int) ++ a_s)))
theorem ok_slices_Clone_int_int (a_s : List (Int)) (r : List (Int)) (h : m_slices_Clone_int_int a_s = some r) : Spec Try.prog 38 [(AV.list 1 eI64 (0 : Int) a_s .none)] [] (AV.list 1 eI64 (0 : Int) r (.own 20000)) [(20000, .tok 1 3 r.length)] := by
  refine spec_of_awp (fn := Try.f38) Try.func38 rfl rfl (by kernel_rfl) (fun Γ hn hΓ => ?_)
  have hn : Γ.n = 8 := hn
  unfold m_slices_Clone_int_int at h
  refine rgs [] [(2, Q10)] (⟨[(0, (AV.list 1 eI64 (0 : Int) a_s .none))], [], []⟩ : St) [(AVle (.slice 0 0 (fun _ => []) .exact) Q10)] hn mix (no_hand hΓ) (by kernel_rfl) ⟨av_nil, trivial⟩ ?_
  refine awp_seq ?_
  refine rgs0 (⟨[(0, (AV.list 1 eI64 (0 : Int) a_s .none)), (4, (.nilq true a_s.length))], [], []⟩ : St) hn mix (no_hand hΓ) (by kernel_rfl) ?_
  refine awp_nilq true a_s.length (by kernel_rfl) (fun hb => ?_) (fun hb => ?_)
  · replace h := nil_at (some ([] : List Int)) (fun (l2 : List Int) => (chk (([] : List Int).length + l2.length ≤ room) (some (([] : List Int) ++ l2)))) h (hb rfl) rfl (fun h0 => by first | exact h0 | simpa [chk, room] using h0)
    clear hb
    refine rgs [] [(2, Q10)] (⟨[(2, Q10)], [], []⟩ : St) [(AVle (.slice 0 0 (fun _ => []) .exact) Q10)] hn mix (no_hand hΓ) (by kernel_rfl) ⟨av_nil, trivial⟩ ?_
    refine awp_le (st' := Q11) (Le.trans (le_restrict_eq (st' := (⟨[(2, Q10)], [], []⟩ : St)) [2] [] (by kernel_rfl) (no_hand hΓ)) (Le.trans (le_tag (t := 2) (nm := 6002) (sz' := 1) (fun i => eI64 (([] : List Int).getD i (0 : Int))) 3 rfl rfl (.inl ⟨rfl, rfl⟩) (fun h_ => absurd h_ (by decide))) (le_restrict_eq (st' := Q11) [2] [6002] (by kernel_rfl) (no_hand hΓ)))) ?_
    refine awp_ret ?_
    refine then_ret ?_
    obtain rfl := Option.some.inj h
    exact ⟨.inl rfl, [(6002, 20000)], by kernel_rfl⟩
  · clear hb
    refine awp_skip ?_
    refine then_normal ?_
    obtain ⟨hc1, h⟩ := chk_some h
    refine rgs [] [(5, Q10), (7, (AV.list 1 eI64 (0 : Int) (([] : List Int) ++ a_s) (.own 7)))] (⟨[(2, (AV.list 1 eI64 (0 : Int) (([] : List Int) ++ a_s) (.own 7)))], [(7, .tok 1 3 ((([] : List Int) ++ a_s).length))], []⟩ : St) [(AVle (.slice 1 0 (fun i => ([] : List (List AV)).getD i []) .exact) Q10), (([] : List Int).length + a_s.length ≤ room), (3 = tokU8 → ([] : List Int).length = 0 ∨ 0 < a_s.length), (AVle (.slice 1 (([] : List Int).length + a_s.length) (appF ([] : List Int).length (fun i => eI64 (([] : List Int).getD i (0 : Int))) (fun i => eI64 (a_s.getD i (0 : Int)))) (.own 7)) (AV.list 1 eI64 (0 : Int) (([] : List Int) ++ a_s) (.own 7))), (([] : List Int).length + a_s.length = (([] : List Int) ++ a_s).length)] hn mix (no_hand hΓ) (by kernel_rfl) ⟨av_lit rfl (fun i hi => absurd hi (Nat.not_lt_zero i)), hc1, (fun h_ => absurd h_ (by decide)), av_app, (len_app _ _), trivial⟩ ?_
    refine awp_ret ?_
    obtain rfl := Option.some.inj h
    exact ⟨.inl rfl, [(7, 20000)], by kernel_rfl⟩

noncomputable def m_graph_copied_L1 (a_lists : List (List (Int))) : (Int × List (List (Int))) → Option (LR (Int × List (List (Int))) (List (List (Int)))) :=
  fun ((i2, l3) : (Int × List (List (Int)))) => (bif (decide ((i2 : Int) < (a_lists.length : Int))) then (chk (InB i2 a_lists.length) ((m_slices_Clone_int_int (a_lists.getD (i2).toNat [])).bind fun x6 => (chk (InB i2 l3.length) (some (.next ((w64 (i2 + (1 : Int))), (l3.set (i2).toNat x6))))))) else (some (.done l3)))
noncomputable def Q15 (a_lists : List (List (Int))) := (a_lists.length : Int)
noncomputable def Q16 (a_lists : List (List (Int))) : AV := (AV.list 1 eLI64 [] a_lists .none)
noncomputable def Q14 (l3 : List (List (Int))) : List (Nat × Own) := [(8, .arr 1 31 l3.length (fun i => eLI64 (l3.getD i [])))]
noncomputable def Q13 (a_lists : List (List (Int))) := (List.replicate ((Q15 a_lists)).toNat ([] : List (Int)))
noncomputable def Q12 (l3 : List (List (Int))) (a_lists : List (List (Int))) (i2 : Int) : List (Nat × AV) := [(3, (.vsl 8 l3.length)), (9, (Q16 a_lists)), (10, (.int .i64 (Q15 a_lists))), (11, (.int .i64 i2))]
noncomputable def m_graph_copied (a_lists : List (List (Int))) : Option (List (List (Int))) :=
  (chk (0 ≤ (a_lists.length : Int) ∧ (a_lists.length : Int) ≤ (a_lists.length : Int) ∧ (a_lists.length : Int) ≤ (room : Int)) ((loopO (S := (Int × List (List (Int)))) (X := List (List (Int))) (m_graph_copied_L1 a_lists) ((0 : Int), (List.replicate ((a_lists.length : Int)).toNat ([] : List (Int))))).bind (fun x8 => ((some x8)))))
theorem ok_graph_copied (a_lists : List (List (Int))) (r : List (List (Int))) (h : m_graph_copied a_lists = some r) : Spec Try.prog 25 [(AV.list 1 eLI64 [] a_lists .none)] [] (AV.list 1 eLI64 [] r (.own 20000)) [(20000, .tok 1 31 r.length)] := by
  refine spec_of_awp (fn := Try.f25) Try.func25 rfl rfl (by kernel_rfl) (fun Γ hn hΓ => ?_)
  have hn : Γ.n = 23 := hn
  unfold m_graph_copied at h
  refine rgs [] [(2, (AV.list 1 eLI64 [] ([] : List (List (Int))) .exact))] (⟨[(0, (Q16 a_lists))], [], []⟩ : St) [(AVle (.slice 0 0 (fun _ => []) .exact) (AV.list 1 eLI64 [] ([] : List (List (Int))) .exact))] hn mix (no_hand hΓ) (by kernel_rfl) ⟨av_nil, trivial⟩ ?_
  obtain ⟨hc1, h⟩ := chk_some h
  refine rgs [] [] (⟨[(0, (Q16 a_lists)), (3, (.vsl 8 ((Q15 a_lists)).toNat))], [(8, .arr 1 31 (((Q15 a_lists)).toNat) (fun i_ => AV.eraseAll (fun n_ => memB n_ [8]) ((fun _ => [(.slice 0 0 (fun _ => []) .exact)]) i_)))], []⟩ : St) [(0 ≤ (Q15 a_lists) ∧ (Q15 a_lists) ≤ (Q15 a_lists) ∧ (Q15 a_lists) ≤ (room : Int))] hn mix (no_hand hΓ) (by kernel_rfl) ⟨hc1, trivial⟩ ?_
  refine awp_le (Le.trans (le_of (st' := (⟨[(0, (Q16 a_lists)), (3, (.vsl 8 ((Q15 a_lists)).toNat))], [(8, .arr 1 31 (((Q15 a_lists)).toNat) (fun i => eLI64 ((Q13 a_lists).getD i [])))], []⟩ : St)) (TmpsLe.refl _) (.arr (fun k hk => make_le (e := eLI64) (d := []) (.cons (fun _ _ _ _ _ hh => AVle.untag _ _ _ _ _ (av_nil _ _ _ _ _ hh)) .nil) _ k (repl_lt hk)) .nil)) (le_eq (congrArg (fun k_ : Nat => (⟨[(0, (Q16 a_lists)), (3, (.vsl 8 k_))], [(8, .arr 1 31 k_ (fun i => eLI64 ((Q13 a_lists).getD i [])))], []⟩ : St)) (show ((Q15 a_lists)).toNat = (Q13 a_lists).length from (List.length_replicate ..).symm)))) ?_
  refine awp_seq ?_
  refine rgs0 (⟨[(3, (.vsl 8 (Q13 a_lists).length)), (9, (Q16 a_lists)), (10, (.int .i64 (Q15 a_lists))), (11, (.int .i64 (0 : Int)))], [(8, .arr 1 31 ((Q13 a_lists).length) (fun i => eLI64 ((Q13 a_lists).getD i [])))], []⟩ : St) hn mix (no_hand hΓ) (by kernel_rfl) ?_
  refine awp_block ?_
  refine awp_le (st' := (fun ((i2, l3) : (Int × List (List (Int)))) => (⟨(Q12 l3 a_lists i2), (Q14 l3), []⟩ : St)) ((0 : Int), (Q13 a_lists))) (Le.refl _ _) ?_
  obtain ⟨x8, hx8, h⟩ := bind_some h
  refine awp_loop (fun ((i2, l3) : (Int × List (List (Int)))) => (⟨(Q12 l3 a_lists i2), (Q14 l3), []⟩ : St)) _ (fun (l4 : List (List (Int))) (e : Exit) (st : St) => e = (.exit 0) ∧ Le Γ st (⟨[(3, (.vsl 8 l4.length))], [(8, .arr 1 31 l4.length (fun i => eLI64 (l4.getD i [])))], []⟩ : St)) ?_ hx8 ?_
  · rintro ⟨i2, l3⟩ y h
    unfold m_graph_copied_L1 at h
    refine rgs0 (⟨[(3, (.vsl 8 l3.length)), (9, (Q16 a_lists)), (10, (.int .i64 (Q15 a_lists))), (11, (.int .i64 i2)), (12, (.bool (decide ((i2 : Int) < (Q15 a_lists)))))], (Q14 l3), []⟩ : St) hn mix (no_hand hΓ) (by kernel_rfl) ?_
    refine awp_seq ?_
    refine awp_cond (decide ((i2 : Int) < (Q15 a_lists))) (by kernel_rfl) (fun hb => ?_) (fun hb => ?_)
    · replace h := cond_t hb h
      clear hb
      refine awp_skip ?_
      refine then_normal ?_
      refine awp_seq ?_
      refine awp_block ?_
      obtain ⟨hc5, h⟩ := chk_some h
      refine rgs [] [] (⟨[(3, (.vsl 8 l3.length)), (4, (.int .i64 i2)), (5, (AV.list 1 eI64 (0 : Int) (a_lists.getD (i2).toNat []) .none)), (9, (Q16 a_lists)), (10, (.int .i64 (Q15 a_lists))), (11, (.int .i64 i2))], (Q14 l3), []⟩ : St) [(InB i2 a_lists.length)] hn mix (no_hand hΓ) (by kernel_rfl) ⟨hc5, trivial⟩ ?_
      obtain ⟨x6, hx6, h⟩ := bind_some h
      obtain ⟨hc7, h⟩ := chk_some h
      refine rg [⟨[], [(20000, 19)], (AV.list 1 eI64 (0 : Int) x6 (.own 20000)), [(20000, .tok 1 3 x6.length)]⟩] [] (⟨(Q12 l3 a_lists i2), [(8, .arr 1 31 l3.length (fun i_ => AV.eraseAll (fun n_ => memB n_ [8]) ((putF (fun i => eLI64 (l3.getD i [])) (i2).toNat 0 [(AV.list 1 eI64 (0 : Int) x6 (.own 19))]) i_)))], []⟩ : St) [(Spec Try.prog 38 [(AV.list 1 eI64 (0 : Int) (a_lists.getD (i2).toNat []) .none)] [] (AV.list 1 eI64 (0 : Int) x6 (.own 20000)) [(20000, .tok 1 3 x6.length)]), (InB i2 l3.length), (l3.length = l3.length)] hn mix (no_hand hΓ) (by kernel_rfl) ⟨(ok_slices_Clone_int_int (a_lists.getD (i2).toNat []) x6 hx6), hc7, rfl, trivial⟩ ?_
      refine block_normal ?_
      refine then_normal ?_
      refine awp_le (Le.trans (le_of (st' := (⟨(Q12 l3 a_lists i2), [(8, .arr 1 31 l3.length (fun i => eLI64 ((l3.set (i2).toNat x6).getD i [])))], []⟩ : St)) (TmpsLe.refl _) (.arr (leL_of_eq (List.length_set ..).symm (putF_erase (fun _ _ => rfl) (fun _ => rfl) (inB_lt0 hc7) rfl)) .nil)) (le_eq (congrArg (fun k_ : Nat => (⟨[(3, (.vsl 8 k_)), (9, (Q16 a_lists)), (10, (.int .i64 (Q15 a_lists))), (11, (.int .i64 i2))], [(8, .arr 1 31 k_ (fun i => eLI64 ((l3.set (i2).toNat x6).getD i [])))], []⟩ : St)) (show l3.length = (l3.set (i2).toNat x6).length from (List.length_set ..).symm)))) ?_
      refine rg0 (⟨[(3, (.vsl 8 (l3.set (i2).toNat x6).length)), (9, (Q16 a_lists)), (10, (.int .i64 (Q15 a_lists))), (11, (.int .i64 (w64 (i2 + (1 : Int)))))], [(8, .arr 1 31 ((l3.set (i2).toNat x6).length) (fun i => eLI64 ((l3.set (i2).toNat x6).getD i [])))], []⟩ : St) hn mix (no_hand hΓ) (by kernel_rfl) ?_
      obtain rfl := Option.some.inj h
      exact ⟨rfl, Le.refl _ _⟩
    · replace h := cond_f hb h
      clear hb
      refine awp_exit ?_
      refine then_exit ?_
      obtain rfl := Option.some.inj h
      exact ⟨(by intro hh; cases hh), rfl, le_restrict_eq [3] [8] (by kernel_rfl) (no_hand hΓ)⟩
  · clear hx8
    rintro e st' ⟨rfl, hl9⟩
    refine block_here ?_
    refine then_normal ?_
    refine awp_le hl9 ?_
    refine rgs0 (⟨[(2, (.vsl 8 x8.length))], [(8, .arr 1 31 x8.length (fun i => eLI64 (x8.getD i [])))], []⟩ : St) hn mix (no_hand hΓ) (by kernel_rfl) ?_
    refine awp_le (Le.trans (le_freeze (nm := 8) (sz := 1) (n := x8.length) (e := 31) (f := (fun i => eLI64 (x8.getD i []))) (g := (fun i => eLI64 (x8.getD i []))) rfl ⟨rfl, trivial⟩ (fun _ _ => rfl) (by rw [hΓ]; rfl)) (le_eq (st' := (⟨[(2, (AV.list 1 eLI64 [] x8 (.own 8)))], [(8, .tok 1 31 x8.length)], []⟩ : St)) (by kernel_rfl))) ?_
    refine awp_ret ?_
    obtain rfl := Option.some.inj h
    exact ⟨.inl rfl, [(8, 20000)], by kernel_rfl⟩

noncomputable def m_graph_comers_L1 (a_succ : List (List (Int))) (i2 : Int) : (Int × List (List (Int))) → Option (LR (Int × List (List (Int))) (List (List (Int)))) :=
  fun ((i6, l7) : (Int × List (List (Int)))) => (bif (decide ((i6 : Int) < ((a_succ.getD (i2).toNat []).length : Int))) then (chk (InB i6 (a_succ.getD (i2).toNat []).length) (chk (InB ((a_succ.getD (i2).toNat []).getD (i6).toNat (0 : Int)) l7.length) (chk (InB ((a_succ.getD (i2).toNat []).getD (i6).toNat (0 : Int)) l7.length) (chk ((l7.getD (((a_succ.getD (i2).toNat []).getD (i6).toNat (0 : Int))).toNat []).length + ([i2] : List (Int)).length ≤ room) (chk (InB ((a_succ.getD (i2).toNat []).getD (i6).toNat (0 : Int)) l7.length) (some (.next ((w64 (i6 + (1 : Int))), (l7.set (((a_succ.getD (i2).toNat []).getD (i6).toNat (0 : Int))).toNat ((l7.getD (((a_succ.getD (i2).toNat []).getD (i6).toNat (0 : Int))).toNat []) ++ ([i2] : List (Int)))))))))))) else (some (.done l7)))
noncomputable def m_graph_comers_L2 (a_succ : List (List (Int))) : (Int × List (List (Int))) → Option (LR (Int × List (List (Int))) (List (List (Int)))) :=
  fun ((i2, l3) : (Int × List (List (Int)))) => (bif (decide ((i2 : Int) < (a_succ.length : Int))) then (chk (InB i2 a_succ.length) ((loopO (S := (Int × List (List (Int)))) (X := List (List (Int))) (m_graph_comers_L1 a_succ i2) ((0 : Int), l3)).bind (fun x14 => ((some (.next ((w64 (i2 + (1 : Int))), x14))))))) else (some (.done l3)))
noncomputable def Q21 (i2 : Int) := ([i2] : List (Int))
noncomputable def Q25 (a_succ : List (List (Int))) : AV := (AV.list 1 eLI64 [] a_succ .none)
noncomputable def Q27 (a_succ : List (List (Int))) : AV := (.int .i64 (a_succ.length : Int))
noncomputable def Q17 (a_succ : List (List (Int))) (i2 : Int) (i6 : Int) := ((a_succ.getD (i2).toNat []).getD (i6).toNat (0 : Int))
noncomputable def Q24 (l7 : List (List (Int))) (a_succ : List (List (Int))) (i2 : Int) (i6 : Int) := (l7.getD ((Q17 a_succ i2 i6)).toNat [])
noncomputable def Q28 (a_succ : List (List (Int))) (i2 : Int) := ((a_succ.getD (i2).toNat []).length : Int)
noncomputable def Q26 (a_succ : List (List (Int))) (i2 : Int) : AV := (AV.list 1 eI64 (0 : Int) (a_succ.getD (i2).toNat []) .none)
noncomputable def Q19 (a_succ : List (List (Int))) := (List.replicate ((a_succ.length : Int)).toNat ([] : List (Int)))
noncomputable def Q20 (l3 : List (List (Int))) : List (Nat × Own) := [(10, .arr 1 31 l3.length (rowF 1 eI64 (0 : Int) l3 (Tag.fam 70010)))]
noncomputable def Q22 (l7 : List (List (Int))) : List (Nat × Own) := [(10, .arr 1 31 l7.length (rowF 1 eI64 (0 : Int) l7 (Tag.fam 70010)))]
noncomputable def Q29 (l7 : List (List (Int))) (a_succ : List (List (Int))) (i2 : Int) (i6 : Int) := (l7.set ((Q17 a_succ i2 i6)).toNat ((Q24 l7 a_succ i2 i6) ++ (Q21 i2)))
noncomputable def Q23 (a_succ : List (List (Int))) : List (Nat × AV) := [(0, (Q25 a_succ)), (3, (.vsl 10 ((a_succ.length : Int)).toNat))]
noncomputable def Q30 (l7 : List (List (Int))) (i2 : Int) (a_succ : List (List (Int))) (i6 : Int) : List (Nat × AV) := [(3, (.vsl 10 l7.length)), (4, (.int .i64 i2)), (7, (.int .i64 (Q17 a_succ i2 i6))), (11, (Q25 a_succ)), (12, (Q27 a_succ)), (13, (.int .i64 i2)), (18, (Q26 a_succ i2)), (19, (.int .i64 (Q28 a_succ i2))), (20, (.int .i64 i6))]
noncomputable def Q18 (l7 : List (List (Int))) (i2 : Int) (a_succ : List (List (Int))) (i6 : Int) : List (Nat × AV) := [(3, (.vsl 10 l7.length)), (4, (.int .i64 i2)), (11, (Q25 a_succ)), (12, (Q27 a_succ)), (13, (.int .i64 i2)), (18, (Q26 a_succ i2)), (19, (.int .i64 (Q28 a_succ i2))), (20, (.int .i64 i6))]
noncomputable def m_graph_comers (a_succ : List (List (Int))) : Option (List (List (Int))) :=
  (chk (0 ≤ (a_succ.length : Int) ∧ (a_succ.length : Int) ≤ (a_succ.length : Int) ∧ (a_succ.length : Int) ≤ (room : Int)) ((loopO (S := (Int × List (List (Int)))) (X := List (List (Int))) (m_graph_comers_L2 a_succ) ((0 : Int), (List.replicate ((a_succ.length : Int)).toNat ([] : List (Int))))).bind (fun x16 => ((some x16)))))
theorem ok_graph_comers (a_succ : List (List (Int))) (r : List (List (Int))) (h : m_graph_comers a_succ = some r) : Spec Try.prog 26 [(AV.list 1 eLI64 [] a_succ .none)] [] (AV.list 1 eLI64 [] r (.own 20000)) [(20000, .tok 1 31 r.length)] := by
  refine spec_of_awp (fn := Try.f26) Try.func26 rfl rfl (by kernel_rfl) (fun Γ hn hΓ => ?_)
  have hn : Γ.n = 37 := hn
  unfold m_graph_comers at h
  refine rgs [] [(2, (AV.list 1 eLI64 [] ([] : List (List (Int))) .exact))] (⟨[(0, (Q25 a_succ))], [], []⟩ : St) [(AVle (.slice 0 0 (fun _ => []) .exact) (AV.list 1 eLI64 [] ([] : List (List (Int))) .exact))] hn mix (no_hand hΓ) (by kernel_rfl) ⟨av_nil, trivial⟩ ?_
  obtain ⟨hc1, h⟩ := chk_some h
  refine rgs [] [] (⟨(Q23 a_succ), [(10, .arr 1 31 (((a_succ.length : Int)).toNat) (fun i_ => AV.eraseAll (fun n_ => memB n_ [10]) ((fun _ => [(.slice 0 0 (fun _ => []) .exact)]) i_)))], []⟩ : St) [(0 ≤ (a_succ.length : Int) ∧ (a_succ.length : Int) ≤ (a_succ.length : Int) ∧ (a_succ.length : Int) ≤ (room : Int))] hn mix (no_hand hΓ) (by kernel_rfl) ⟨hc1, trivial⟩ ?_
  refine awp_le (Le.trans (le_of (st' := (⟨(Q23 a_succ), [(10, .arr 1 31 (((a_succ.length : Int)).toNat) (rowF 1 eI64 (0 : Int) (Q19 a_succ) (fun _ => .exact)))], []⟩ : St)) (TmpsLe.refl _) (.arr fam_zero .nil)) (Le.trans (Le.trans (le_birth (r := 10) (b := 70010) eI64 (0 : Int) (Q19 a_succ) 3 rfl rfl (List.length_replicate ..).symm (fun h_ => absurd h_ (by decide))) (le_eq (st' := (⟨(Q23 a_succ), [(10, .arr 1 31 (((a_succ.length : Int)).toNat) (rowF 1 eI64 (0 : Int) (Q19 a_succ) (Tag.fam 70010)))], [(70010, ⟨1, 3, famM (Q19 a_succ)⟩)]⟩ : St)) (by kernel_rfl))) (le_eq (congrArg (fun k_ : Nat => (⟨[(0, (Q25 a_succ)), (3, (.vsl 10 k_))], [(10, .arr 1 31 k_ (rowF 1 eI64 (0 : Int) (Q19 a_succ) (Tag.fam 70010)))], [(70010, ⟨1, 3, famM (Q19 a_succ)⟩)]⟩ : St)) (show ((a_succ.length : Int)).toNat = (Q19 a_succ).length from (List.length_replicate ..).symm))))) ?_
  refine awp_seq ?_
  refine rgs0 (⟨[(3, (.vsl 10 (Q19 a_succ).length)), (11, (Q25 a_succ)), (12, (Q27 a_succ)), (13, (.int .i64 (0 : Int)))], [(10, .arr 1 31 ((Q19 a_succ).length) (rowF 1 eI64 (0 : Int) (Q19 a_succ) (Tag.fam 70010)))], [(70010, ⟨1, 3, famM (Q19 a_succ)⟩)]⟩ : St) hn mix (no_hand hΓ) (by kernel_rfl) ?_
  refine awp_block ?_
  refine awp_le (st' := (fun ((i2, l3) : (Int × List (List (Int)))) => (⟨[(3, (.vsl 10 l3.length)), (11, (Q25 a_succ)), (12, (Q27 a_succ)), (13, (.int .i64 i2))], (Q20 l3), [(70010, ⟨1, 3, famM l3⟩)]⟩ : St)) ((0 : Int), (Q19 a_succ))) (Le.refl _ _) ?_
  obtain ⟨x16, hx16, h⟩ := bind_some h
  refine awp_loop (fun ((i2, l3) : (Int × List (List (Int)))) => (⟨[(3, (.vsl 10 l3.length)), (11, (Q25 a_succ)), (12, (Q27 a_succ)), (13, (.int .i64 i2))], (Q20 l3), [(70010, ⟨1, 3, famM l3⟩)]⟩ : St)) _ (fun (l4 : List (List (Int))) (e : Exit) (st : St) => e = (.exit 0) ∧ Le Γ st (⟨[(3, (.vsl 10 l4.length))], [(10, .arr 1 31 l4.length (rowF 1 eI64 (0 : Int) l4 (Tag.fam 70010)))], [(70010, ⟨1, 3, famM l4⟩)]⟩ : St)) ?_ hx16 ?_
  · rintro ⟨i2, l3⟩ y h
    unfold m_graph_comers_L2 at h
    refine rgs0 (⟨[(3, (.vsl 10 l3.length)), (11, (Q25 a_succ)), (12, (Q27 a_succ)), (13, (.int .i64 i2)), (14, (.bool (decide ((i2 : Int) < (a_succ.length : Int)))))], (Q20 l3), [(70010, ⟨1, 3, famM l3⟩)]⟩ : St) hn mix (no_hand hΓ) (by kernel_rfl) ?_
    refine awp_seq ?_
    refine awp_cond (decide ((i2 : Int) < (a_succ.length : Int))) (by kernel_rfl) (fun hb => ?_) (fun hb => ?_)
    · replace h := cond_t hb h
      clear hb
      refine awp_skip ?_
      refine then_normal ?_
      refine awp_seq ?_
      refine awp_block ?_
      obtain ⟨hc5, h⟩ := chk_some h
      refine rgs [] [] (⟨[(3, (.vsl 10 l3.length)), (4, (.int .i64 i2)), (5, (Q26 a_succ i2)), (11, (Q25 a_succ)), (12, (Q27 a_succ)), (13, (.int .i64 i2))], (Q20 l3), [(70010, ⟨1, 3, famM l3⟩)]⟩ : St) [(InB i2 a_succ.length)] hn mix (no_hand hΓ) (by kernel_rfl) ⟨hc5, trivial⟩ ?_
      refine rgs0 (⟨[(3, (.vsl 10 l3.length)), (4, (.int .i64 i2)), (11, (Q25 a_succ)), (12, (Q27 a_succ)), (13, (.int .i64 i2)), (18, (Q26 a_succ i2)), (19, (.int .i64 (Q28 a_succ i2))), (20, (.int .i64 (0 : Int)))], (Q20 l3), [(70010, ⟨1, 3, famM l3⟩)]⟩ : St) hn mix (no_hand hΓ) (by kernel_rfl) ?_
      refine awp_block ?_
      refine awp_le (st' := (fun ((i6, l7) : (Int × List (List (Int)))) => (⟨(Q18 l7 i2 a_succ i6), (Q22 l7), [(70010, ⟨1, 3, famM l7⟩)]⟩ : St)) ((0 : Int), l3)) (Le.refl _ _) ?_
      obtain ⟨x14, hx14, h⟩ := bind_some h
      refine awp_loop (fun ((i6, l7) : (Int × List (List (Int)))) => (⟨(Q18 l7 i2 a_succ i6), (Q22 l7), [(70010, ⟨1, 3, famM l7⟩)]⟩ : St)) _ (fun (l8 : List (List (Int))) (e : Exit) (st : St) => e = (.exit 2) ∧ Le Γ st (⟨[(3, (.vsl 10 l8.length)), (11, (Q25 a_succ)), (12, (Q27 a_succ)), (13, (.int .i64 i2))], [(10, .arr 1 31 l8.length (rowF 1 eI64 (0 : Int) l8 (Tag.fam 70010)))], [(70010, ⟨1, 3, famM l8⟩)]⟩ : St)) ?_ hx14 ?_
      · rintro ⟨i6, l7⟩ y h
        unfold m_graph_comers_L1 at h
        refine rgs0 (⟨[(3, (.vsl 10 l7.length)), (4, (.int .i64 i2)), (11, (Q25 a_succ)), (12, (Q27 a_succ)), (13, (.int .i64 i2)), (18, (Q26 a_succ i2)), (19, (.int .i64 (Q28 a_succ i2))), (20, (.int .i64 i6)), (21, (.bool (decide ((i6 : Int) < (Q28 a_succ i2)))))], (Q22 l7), [(70010, ⟨1, 3, famM l7⟩)]⟩ : St) hn mix (no_hand hΓ) (by kernel_rfl) ?_
        refine awp_seq ?_
        refine awp_cond (decide ((i6 : Int) < (Q28 a_succ i2))) (by kernel_rfl) (fun hb => ?_) (fun hb => ?_)
        · replace h := cond_t hb h
          clear hb
          refine awp_skip ?_
          refine then_normal ?_
          refine awp_seq ?_
          refine awp_block ?_
          obtain ⟨hc9, h⟩ := chk_some h
          refine rgs [] [] (⟨(Q30 l7 i2 a_succ i6), (Q22 l7), [(70010, ⟨1, 3, famM l7⟩)]⟩ : St) [(InB i6 (a_succ.getD (i2).toNat []).length)] hn mix (no_hand hΓ) (by kernel_rfl) ⟨hc9, trivial⟩ ?_
          obtain ⟨hc10, h⟩ := chk_some h
          obtain ⟨hc11, h⟩ := chk_some h
          obtain ⟨hc12, h⟩ := chk_some h
          obtain ⟨hc13, h⟩ := chk_some h
          refine awp_le (Le.trans (le_take (r := 10) (b := 70010) (k := 60010) eI64 (0 : Int) l7 ((Q17 a_succ i2 i6)).toNat 3 rfl rfl rfl rfl (inB_lit hc10) (by kernel_rfl) (.here .nil)) (le_eq (st' := (⟨(Q30 l7 i2 a_succ i6), [(10, .arr 1 31 l7.length (rowF 1 eI64 (0 : Int) l7 (famTag 70010 ((Q17 a_succ i2 i6)).toNat 60010))), (60010, .tok 1 3 ((Q24 l7 a_succ i2 i6).length))], [(70010, ⟨1, 3, holeM l7 ((Q17 a_succ i2 i6)).toNat⟩)]⟩ : St)) (by kernel_rfl))) ?_
          refine rg [] [(29, (AV.list 1 eI64 (0 : Int) (Q24 l7 a_succ i2 i6) (.own 60010))), (31, (AV.list 1 eI64 (0 : Int) (Q21 i2) .exact)), (32, (AV.list 1 eI64 (0 : Int) ((Q24 l7 a_succ i2 i6) ++ (Q21 i2)) (.own 60010)))] (⟨(Q18 l7 i2 a_succ i6), [(10, .arr 1 31 l7.length (fun i_ => AV.eraseAll (fun n_ => memB n_ [10, 60010, 70010]) ((putF (rowF 1 eI64 (0 : Int) l7 (famTag 70010 ((Q17 a_succ i2 i6)).toNat 60010)) ((Q17 a_succ i2 i6)).toNat 0 [(AV.list 1 eI64 (0 : Int) ((Q24 l7 a_succ i2 i6) ++ (Q21 i2)) (.own 60010))]) i_))), (60010, .tok 1 3 (((Q24 l7 a_succ i2 i6) ++ (Q21 i2)).length))], [(70010, ⟨1, 3, holeM l7 ((Q17 a_succ i2 i6)).toNat⟩)]⟩ : St) [(InB (Q17 a_succ i2 i6) l7.length), (l7.length = l7.length), (AVle (((rowF 1 eI64 (0 : Int) l7 (famTag 70010 ((Q17 a_succ i2 i6)).toNat 60010)) ((Q17 a_succ i2 i6)).toNat).getD 0 .any) (AV.list 1 eI64 (0 : Int) (Q24 l7 a_succ i2 i6) (.own 60010))), (AVle (.slice 1 1 (fun i => ([[(.int .i64 i2)]] : List (List AV)).getD i []) .exact) (AV.list 1 eI64 (0 : Int) (Q21 i2) .exact)), ((Q24 l7 a_succ i2 i6).length = (Q24 l7 a_succ i2 i6).length), ((Q24 l7 a_succ i2 i6).length + (Q21 i2).length ≤ room), (AVle (.slice 1 ((Q24 l7 a_succ i2 i6).length + (Q21 i2).length) (appF (Q24 l7 a_succ i2 i6).length (fun i => eI64 ((Q24 l7 a_succ i2 i6).getD i (0 : Int))) (fun i => eI64 ((Q21 i2).getD i (0 : Int)))) (.own 60010)) (AV.list 1 eI64 (0 : Int) ((Q24 l7 a_succ i2 i6) ++ (Q21 i2)) (.own 60010))), ((Q24 l7 a_succ i2 i6).length + (Q21 i2).length = ((Q24 l7 a_succ i2 i6) ++ (Q21 i2)).length), (InB (Q17 a_succ i2 i6) l7.length), (l7.length = l7.length)] hn mix (no_hand hΓ) (by kernel_rfl) ⟨hc11, rfl, av_famtag, (av_lit rfl (fun i hi => map_get (e := eI64) (d := (0 : Int)) (Q21 i2) i hi)), rfl, hc12, av_app, (len_app _ _), hc13, rfl, trivial⟩ ?_
          refine block_normal ?_
          refine then_normal ?_
          refine awp_le (Le.trans (Le.trans (le_put (r := 10) (b := 70010) (k := 60010) eI64 (0 : Int) l7 ((Q17 a_succ i2 i6)).toNat ((Q24 l7 a_succ i2 i6) ++ (Q21 i2)) 3 rfl (putF_fam (inB_lit hc10) rfl rfl) rfl rfl rfl rfl (inB_lit hc10) (by kernel_rfl) (.here (.tok .nil)) (by rw [hΓ]; rfl)) (le_eq (st' := (⟨(Q18 l7 i2 a_succ i6), [(10, .arr 1 31 l7.length (rowF 1 eI64 (0 : Int) (Q29 l7 a_succ i2 i6) (Tag.fam 70010)))], [(70010, ⟨1, 3, famM (Q29 l7 a_succ i2 i6)⟩)]⟩ : St)) (by kernel_rfl))) (le_eq (congrArg (fun k_ : Nat => (⟨[(3, (.vsl 10 k_)), (4, (.int .i64 i2)), (11, (Q25 a_succ)), (12, (Q27 a_succ)), (13, (.int .i64 i2)), (18, (Q26 a_succ i2)), (19, (.int .i64 (Q28 a_succ i2))), (20, (.int .i64 i6))], [(10, .arr 1 31 k_ (rowF 1 eI64 (0 : Int) (Q29 l7 a_succ i2 i6) (Tag.fam 70010)))], [(70010, ⟨1, 3, famM (Q29 l7 a_succ i2 i6)⟩)]⟩ : St)) (show l7.length = (Q29 l7 a_succ i2 i6).length from (List.length_set ..).symm)))) ?_
          refine rg0 (⟨[(3, (.vsl 10 (Q29 l7 a_succ i2 i6).length)), (4, (.int .i64 i2)), (11, (Q25 a_succ)), (12, (Q27 a_succ)), (13, (.int .i64 i2)), (18, (Q26 a_succ i2)), (19, (.int .i64 (Q28 a_succ i2))), (20, (.int .i64 (w64 (i6 + (1 : Int)))))], [(10, .arr 1 31 ((Q29 l7 a_succ i2 i6).length) (rowF 1 eI64 (0 : Int) (Q29 l7 a_succ i2 i6) (Tag.fam 70010)))], [(70010, ⟨1, 3, famM (Q29 l7 a_succ i2 i6)⟩)]⟩ : St) hn mix (no_hand hΓ) (by kernel_rfl) ?_
          obtain rfl := Option.some.inj h
          exact ⟨rfl, Le.refl _ _⟩
        · replace h := cond_f hb h
          clear hb
          refine awp_exit ?_
          refine then_exit ?_
          obtain rfl := Option.some.inj h
          exact ⟨(by intro hh; cases hh), rfl, le_restrict_eq [3, 11, 12, 13] [10, 70010] (by kernel_rfl) (no_hand hΓ)⟩
      · clear hx14
        rintro e st' ⟨rfl, hl15⟩
        refine block_here ?_
        refine block_normal ?_
        refine then_normal ?_
        refine awp_le hl15 ?_
        refine rg0 (⟨[(3, (.vsl 10 x14.length)), (11, (Q25 a_succ)), (12, (Q27 a_succ)), (13, (.int .i64 (w64 (i2 + (1 : Int)))))], [(10, .arr 1 31 x14.length (rowF 1 eI64 (0 : Int) x14 (Tag.fam 70010)))], [(70010, ⟨1, 3, famM x14⟩)]⟩ : St) hn mix (no_hand hΓ) (by kernel_rfl) ?_
        obtain rfl := Option.some.inj h
        exact ⟨rfl, Le.refl _ _⟩
    · replace h := cond_f hb h
      clear hb
      refine awp_exit ?_
      refine then_exit ?_
      obtain rfl := Option.some.inj h
      exact ⟨(by intro hh; cases hh), rfl, le_restrict_eq [3] [10, 70010] (by kernel_rfl) (no_hand hΓ)⟩
  · clear hx16
    rintro e st' ⟨rfl, hl17⟩
    refine block_here ?_
    refine then_normal ?_
    refine awp_le hl17 ?_
    refine rgs0 (⟨[(2, (.vsl 10 x16.length))], [(10, .arr 1 31 x16.length (rowF 1 eI64 (0 : Int) x16 (Tag.fam 70010)))], [(70010, ⟨1, 3, famM x16⟩)]⟩ : St) hn mix (no_hand hΓ) (by kernel_rfl) ?_
    refine awp_le (Le.trans (le_freeze (nm := 10) (sz := 1) (n := x16.length) (e := 31) (f := (rowF 1 eI64 (0 : Int) x16 (Tag.fam 70010))) (g := (fun i => eLI64 (x16.getD i []))) rfl ⟨rfl, trivial⟩ (fun _ _ => rfl) (by rw [hΓ]; rfl)) (le_restrict_eq (st' := (⟨[(2, (AV.list 1 eLI64 [] x16 (.own 10)))], [(10, .tok 1 31 x16.length)], []⟩ : St)) [2] [10] (by kernel_rfl) (no_hand hΓ))) ?_
    refine awp_ret ?_
    obtain rfl := Option.some.inj h
    exact ⟨.inl rfl, [(10, 20000)], by kernel_rfl⟩

noncomputable def Q32 : AV := (.slice 0 0 (fun _ => []) .exact)
noncomputable def Q31 : AV := (AV.list 1 eLI64 [] ([] : List (List (Int))) .exact)
noncomputable def m_graph_Make (a_succ : List (List (Int))) : Option (TGraph × Int) :=
  ((m_graph_succMay a_succ).bind fun x1 => (bif (!x1) then (some ((⟨([] : List (List (Int))), ([] : List (List (Int)))⟩ : TGraph), (5 : Int))) else ((m_graph_copied a_succ).bind fun x2 => ((m_graph_comers a_succ).bind fun x3 => (some ((⟨x2, x3⟩ : TGraph), (0 : Int)))))))
theorem ok_graph_Make (a_succ : List (List (Int))) (r : (TGraph × Int)) (h : m_graph_Make a_succ = some r) : Spec Try.prog 11 [(AV.list 1 eLI64 [] a_succ .none)] [] (.tuple [(.agg (eTGraph r.1)), (.int .i64 r.2)]) [] := by
  refine spec_of_awp (fn := Try.f11) Try.func11 rfl rfl (by kernel_rfl) (fun Γ hn hΓ => ?_)
  have hn : Γ.n = 13 := hn
  unfold m_graph_Make at h
  refine rgs0 (⟨[(0, (AV.list 1 eLI64 [] a_succ .none)), (2, (.ptr 2 0))], [(2, .row 26 [Q32, Q32])], []⟩ : St) hn mix (no_hand hΓ) (by kernel_rfl) ?_
  refine awp_seq ?_
  obtain ⟨x1, hx1, h⟩ := bind_some h
  refine rgs [⟨[], [], (.bool x1), []⟩] [] (⟨[(0, (AV.list 1 eLI64 [] a_succ .none)), (2, (.ptr 2 0)), (6, (.bool (!x1)))], [(2, .row 26 [Q32, Q32])], []⟩ : St) [(Spec Try.prog 24 [(AV.list 1 eLI64 [] a_succ .none)] [] (.bool x1) [])] hn mix (no_hand hΓ) (by kernel_rfl) ⟨(ok_graph_succMay a_succ x1 hx1), trivial⟩ ?_
  refine awp_cond (!x1) (by kernel_rfl) (fun hb => ?_) (fun hb => ?_)
  · replace h := cond_t hb h
    clear hb
    refine rgs [] [(7, (.agg [Q31, Q31]))] (⟨[(2, (.ptr 2 0)), (3, (.int .i64 (5 : Int)))], [(2, .row 26 [Q31, Q31])], []⟩ : St) [(AVle (.agg [Q32, Q32]) (.agg [Q31, Q31]))] hn mix (no_hand hΓ) (by kernel_rfl) ⟨(AVle.agg (.cons av_nil (.cons av_nil .nil))), trivial⟩ ?_
    refine awp_le (st' := (⟨[(2, (.ptr 2 0)), (3, (.int .i64 (5 : Int)))], [(2, .row 26 [(AV.list 1 eLI64 [] ([] : List (List (Int))) .none), (AV.list 1 eLI64 [] ([] : List (List (Int))) .none)])], []⟩ : St)) (Le.trans (le_restrict_eq (st' := (⟨[(2, (.ptr 2 0)), (3, (.int .i64 (5 : Int)))], [(2, .row 26 [Q31, Q31])], []⟩ : St)) [2, 3] [2] (by kernel_rfl) (no_hand hΓ)) (le_of (.cons (AVle.refl _) (.cons (AVle.refl _) .nil)) (.row (.cons AVle.untag (.cons AVle.untag .nil)) .nil))) ?_
    refine awp_ret ?_
    refine then_ret ?_
    obtain rfl := Option.some.inj h
    exact ⟨.inl rfl, [], by kernel_rfl⟩
  · replace h := cond_f hb h
    clear hb
    refine awp_skip ?_
    refine then_normal ?_
    obtain ⟨x2, hx2, h⟩ := bind_some h
    obtain ⟨x3, hx3, h⟩ := bind_some h
    refine rgs [⟨[], [(20000, 9)], (AV.list 1 eLI64 [] x2 (.own 20000)), [(20000, .tok 1 31 x2.length)]⟩, ⟨[], [(20000, 11)], (AV.list 1 eLI64 [] x3 (.own 20000)), [(20000, .tok 1 31 x3.length)]⟩] [] (⟨[(2, (.ptr 2 0)), (3, (.int .i64 (0 : Int)))], [(2, .row 26 [(AV.list 1 eLI64 [] x2 (.own 9)), (AV.list 1 eLI64 [] x3 (.own 11))]), (9, .tok 1 31 x2.length), (11, .tok 1 31 x3.length)], []⟩ : St) [(Spec Try.prog 25 [(AV.list 1 eLI64 [] a_succ .none)] [] (AV.list 1 eLI64 [] x2 (.own 20000)) [(20000, .tok 1 31 x2.length)]), (Spec Try.prog 26 [(AV.list 1 eLI64 [] a_succ .none)] [] (AV.list 1 eLI64 [] x3 (.own 20000)) [(20000, .tok 1 31 x3.length)])] hn mix (no_hand hΓ) (by kernel_rfl) ⟨(ok_graph_copied a_succ x2 hx2), (ok_graph_comers a_succ x3 hx3), trivial⟩ ?_
    refine awp_ret ?_
    obtain rfl := Option.some.inj h
    exact ⟨.inl rfl, [], by kernel_rfl⟩

noncomputable def m_slices_Equal_int_int_L1 (a_s1 : List (Int)) (a_s2 : List (Int)) : Int → Option (LR Int (Unit ⊕ Bool)) :=
  fun (i1 : Int) => (bif (decide ((i1 : Int) < (a_s1.length : Int))) then (chk (InB i1 a_s1.length) (chk (InB i1 a_s2.length) (bif (((a_s1.getD (i1).toNat (0 : Int)) : Int) != (a_s2.getD (i1).toNat (0 : Int))) then (some (.done (.inr false))) else (some (.next (w64 (i1 + (1 : Int)))))))) else (some (.done (.inl ()))))
noncomputable def Q35 (a_s1 : List (Int)) : AV := (.int .i64 (a_s1.length : Int))
noncomputable def Q33 (a_s1 : List (Int)) : AV := (AV.list 1 eI64 (0 : Int) a_s1 .none)
noncomputable def Q34 (a_s2 : List (Int)) : AV := (AV.list 1 eI64 (0 : Int) a_s2 .none)
noncomputable def m_slices_Equal_int_int (a_s1 : List (Int)) (a_s2 : List (Int)) : Option Bool :=
  (bif (((a_s1.length : Int) : Int) != (a_s2.length : Int)) then (some false) else ((loopO (S := Int) (X := (Unit ⊕ Bool)) (m_slices_Equal_int_int_L1 a_s1 a_s2) (0 : Int)).bind (fun x4 => (match x4 with | (.inl _) => (some true) | (.inr r6) => (some r6)))))
theorem ok_slices_Equal_int_int (a_s1 : List (Int)) (a_s2 : List (Int)) (r : Bool) (h : m_slices_Equal_int_int a_s1 a_s2 = some r) : Spec Try.prog 45 [(AV.list 1 eI64 (0 : Int) a_s1 .none), (AV.list 1 eI64 (0 : Int) a_s2 .none)] [] (.bool r) [] := by
  refine spec_of_awp (fn := Try.f45) Try.func45 rfl rfl (by kernel_rfl) (fun Γ hn hΓ => ?_)
  have hn : Γ.n = 26 := hn
  unfold m_slices_Equal_int_int at h
  refine rgs0 (⟨[(0, (Q33 a_s1)), (1, (Q34 a_s2))], [], []⟩ : St) hn mix (no_hand hΓ) (by kernel_rfl) ?_
  refine awp_seq ?_
  refine rgs0 (⟨[(0, (Q33 a_s1)), (1, (Q34 a_s2)), (10, (.bool (((a_s1.length : Int) : Int) != (a_s2.length : Int))))], [], []⟩ : St) hn mix (no_hand hΓ) (by kernel_rfl) ?_
  refine awp_cond (((a_s1.length : Int) : Int) != (a_s2.length : Int)) (by kernel_rfl) (fun hb => ?_) (fun hb => ?_)
  · replace h := cond_t hb h
    clear hb
    refine rgs0 (⟨[(4, (.bool false))], [], []⟩ : St) hn mix (no_hand hΓ) (by kernel_rfl) ?_
    refine awp_ret ?_
    refine then_ret ?_
    obtain rfl := Option.some.inj h
    exact ⟨.inl rfl, [], by kernel_rfl⟩
  · replace h := cond_f hb h
    clear hb
    refine awp_skip ?_
    refine then_normal ?_
    refine awp_seq ?_
    refine rgs0 (⟨[(0, (Q33 a_s1)), (1, (Q34 a_s2)), (12, (Q35 a_s1)), (13, (.int .i64 (0 : Int)))], [], []⟩ : St) hn mix (no_hand hΓ) (by kernel_rfl) ?_
    refine awp_block ?_
    refine awp_le (st' := (fun (i1 : Int) => (⟨[(0, (Q33 a_s1)), (1, (Q34 a_s2)), (12, (Q35 a_s1)), (13, (.int .i64 i1))], [], []⟩ : St)) (0 : Int)) (Le.refl _ _) ?_
    obtain ⟨x4, hx4, h⟩ := bind_some h
    refine awp_loop (fun (i1 : Int) => (⟨[(0, (Q33 a_s1)), (1, (Q34 a_s2)), (12, (Q35 a_s1)), (13, (.int .i64 i1))], [], []⟩ : St)) _ (fun (x_ : (Unit ⊕ Bool)) (e : Exit) (st : St) => match x_ with | (.inl _) => e = (.exit 0) ∧ Le Γ st (⟨[], [], []⟩ : St) | (.inr r_) => e = .ret ∧ retK Try.prog Try.f45.results.toList [] (.bool r_) [] e st) ?_ hx4 ?_
    · intro i1 y h
      unfold m_slices_Equal_int_int_L1 at h
      refine rgs0 (⟨[(0, (Q33 a_s1)), (1, (Q34 a_s2)), (12, (Q35 a_s1)), (13, (.int .i64 i1)), (14, (.bool (decide ((i1 : Int) < (a_s1.length : Int)))))], [], []⟩ : St) hn mix (no_hand hΓ) (by kernel_rfl) ?_
      refine awp_seq ?_
      refine awp_cond (decide ((i1 : Int) < (a_s1.length : Int))) (by kernel_rfl) (fun hb => ?_) (fun hb => ?_)
      · replace h := cond_t hb h
        clear hb
        refine awp_skip ?_
        refine then_normal ?_
        refine awp_seq ?_
        refine awp_block ?_
        refine rgs0 (⟨[(0, (Q33 a_s1)), (1, (Q34 a_s2)), (5, (.int .i64 i1)), (12, (Q35 a_s1)), (13, (.int .i64 i1))], [], []⟩ : St) hn mix (no_hand hΓ) (by kernel_rfl) ?_
        obtain ⟨hc2, h⟩ := chk_some h
        obtain ⟨hc3, h⟩ := chk_some h
        refine rgs [] [] (⟨[(0, (Q33 a_s1)), (1, (Q34 a_s2)), (12, (Q35 a_s1)), (13, (.int .i64 i1)), (24, (.bool (((a_s1.getD (i1).toNat (0 : Int)) : Int) != (a_s2.getD (i1).toNat (0 : Int)))))], [], []⟩ : St) [(InB i1 a_s1.length), (InB i1 a_s2.length)] hn mix (no_hand hΓ) (by kernel_rfl) ⟨hc2, hc3, trivial⟩ ?_
        refine awp_cond (((a_s1.getD (i1).toNat (0 : Int)) : Int) != (a_s2.getD (i1).toNat (0 : Int))) (by kernel_rfl) (fun hb => ?_) (fun hb => ?_)
        · replace h := cond_t hb h
          clear hb
          refine rgs0 (⟨[(4, (.bool false))], [], []⟩ : St) hn mix (no_hand hΓ) (by kernel_rfl) ?_
          refine awp_ret ?_
          refine block_ret ?_
          refine then_ret ?_
          obtain rfl := Option.some.inj h
          exact ⟨(by intro hh; cases hh), rfl, ⟨.inl rfl, [], by kernel_rfl⟩⟩
        · replace h := cond_f hb h
          clear hb
          refine awp_skip ?_
          refine block_normal ?_
          refine then_normal ?_
          refine rg0 (⟨[(0, (Q33 a_s1)), (1, (Q34 a_s2)), (12, (Q35 a_s1)), (13, (.int .i64 (w64 (i1 + (1 : Int)))))], [], []⟩ : St) hn mix (no_hand hΓ) (by kernel_rfl) ?_
          obtain rfl := Option.some.inj h
          exact ⟨rfl, Le.refl _ _⟩
      · replace h := cond_f hb h
        clear hb
        refine awp_exit ?_
        refine then_exit ?_
        obtain rfl := Option.some.inj h
        exact ⟨(by intro hh; cases hh), rfl, le_restrict_eq [] [] (by kernel_rfl) (no_hand hΓ)⟩
    · clear hx4
      rcases x4 with _ | r6
      · rintro e st' ⟨rfl, hl5⟩
        refine block_here ?_
        refine then_normal ?_
        refine awp_le hl5 ?_
        refine rgs0 (⟨[(4, (.bool true))], [], []⟩ : St) hn mix (no_hand hΓ) (by kernel_rfl) ?_
        refine awp_ret ?_
        obtain rfl := Option.some.inj h
        exact ⟨.inl rfl, [], by kernel_rfl⟩
      · rintro e st' ⟨rfl, hk⟩
        refine block_ret ?_
        refine then_ret ?_
        obtain rfl := Option.some.inj h
        exact hk

noncomputable def m_slices_EqualFunc_int_int_int_int_L1 (a_s1 : List (List (Int))) (a_s2 : List (List (Int))) : Int → Option (LR Int (Unit ⊕ Bool)) :=
  fun (i1 : Int) => (bif (decide ((i1 : Int) < (a_s1.length : Int))) then (chk (InB i1 a_s1.length) (chk (InB i1 a_s2.length) ((m_slices_Equal_int_int (a_s1.getD (i1).toNat []) (a_s2.getD (i1).toNat [])).bind fun x4 => (bif (!x4) then (some (.done (.inr false))) else (some (.next (w64 (i1 + (1 : Int))))))))) else (some (.done (.inl ()))))
noncomputable def Q36 (a_s1 : List (List (Int))) : AV := (AV.list 1 eLI64 [] a_s1 .none)
noncomputable def Q37 (a_s2 : List (List (Int))) : AV := (AV.list 1 eLI64 [] a_s2 .none)
noncomputable def Q38 (a_s1 : List (List (Int))) : AV := (.int .i64 (a_s1.length : Int))
noncomputable def m_slices_EqualFunc_int_int_int_int (a_s1 : List (List (Int))) (a_s2 : List (List (Int))) : Option Bool :=
  (bif (((a_s1.length : Int) : Int) != (a_s2.length : Int)) then (some false) else ((loopO (S := Int) (X := (Unit ⊕ Bool)) (m_slices_EqualFunc_int_int_int_int_L1 a_s1 a_s2) (0 : Int)).bind (fun x5 => (match x5 with | (.inl _) => (some true) | (.inr r7) => (some r7)))))
theorem ok_slices_EqualFunc_int_int_int_int (a_s1 : List (List (Int))) (a_s2 : List (List (Int))) (r : Bool) (h : m_slices_EqualFunc_int_int_int_int a_s1 a_s2 = some r) : Spec Try.prog 44 [(AV.list 1 eLI64 [] a_s1 .none), (AV.list 1 eLI64 [] a_s2 .none), (.clo 45 [] [])] [] (.bool r) [] := by
  refine spec_of_awp (fn := Try.f44) Try.func44 rfl rfl (by kernel_rfl) (fun Γ hn hΓ => ?_)
  have hn : Γ.n = 32 := hn
  unfold m_slices_EqualFunc_int_int_int_int at h
  refine rgs0 (⟨[(0, (Q36 a_s1)), (1, (Q37 a_s2)), (2, (.clo 45 [] []))], [], []⟩ : St) hn mix (no_hand hΓ) (by kernel_rfl) ?_
  refine awp_seq ?_
  refine rgs0 (⟨[(0, (Q36 a_s1)), (1, (Q37 a_s2)), (2, (.clo 45 [] [])), (14, (.bool (((a_s1.length : Int) : Int) != (a_s2.length : Int))))], [], []⟩ : St) hn mix (no_hand hΓ) (by kernel_rfl) ?_
  refine awp_cond (((a_s1.length : Int) : Int) != (a_s2.length : Int)) (by kernel_rfl) (fun hb => ?_) (fun hb => ?_)
  · replace h := cond_t hb h
    clear hb
    refine rgs0 (⟨[(6, (.bool false))], [], []⟩ : St) hn mix (no_hand hΓ) (by kernel_rfl) ?_
    refine awp_ret ?_
    refine then_ret ?_
    obtain rfl := Option.some.inj h
    exact ⟨.inl rfl, [], by kernel_rfl⟩
  · replace h := cond_f hb h
    clear hb
    refine awp_skip ?_
    refine then_normal ?_
    refine awp_seq ?_
    refine rgs0 (⟨[(1, (Q37 a_s2)), (2, (.clo 45 [] [])), (15, (Q36 a_s1)), (16, (Q38 a_s1)), (17, (.int .i64 (0 : Int)))], [], []⟩ : St) hn mix (no_hand hΓ) (by kernel_rfl) ?_
    refine awp_block ?_
    refine awp_le (st' := (fun (i1 : Int) => (⟨[(1, (Q37 a_s2)), (2, (.clo 45 [] [])), (15, (Q36 a_s1)), (16, (Q38 a_s1)), (17, (.int .i64 i1))], [], []⟩ : St)) (0 : Int)) (Le.refl _ _) ?_
    obtain ⟨x5, hx5, h⟩ := bind_some h
    refine awp_loop (fun (i1 : Int) => (⟨[(1, (Q37 a_s2)), (2, (.clo 45 [] [])), (15, (Q36 a_s1)), (16, (Q38 a_s1)), (17, (.int .i64 i1))], [], []⟩ : St)) _ (fun (x_ : (Unit ⊕ Bool)) (e : Exit) (st : St) => match x_ with | (.inl _) => e = (.exit 0) ∧ Le Γ st (⟨[], [], []⟩ : St) | (.inr r_) => e = .ret ∧ retK Try.prog Try.f44.results.toList [] (.bool r_) [] e st) ?_ hx5 ?_
    · intro i1 y h
      unfold m_slices_EqualFunc_int_int_int_int_L1 at h
      refine rgs0 (⟨[(1, (Q37 a_s2)), (2, (.clo 45 [] [])), (15, (Q36 a_s1)), (16, (Q38 a_s1)), (17, (.int .i64 i1)), (18, (.bool (decide ((i1 : Int) < (a_s1.length : Int)))))], [], []⟩ : St) hn mix (no_hand hΓ) (by kernel_rfl) ?_
      refine awp_seq ?_
      refine awp_cond (decide ((i1 : Int) < (a_s1.length : Int))) (by kernel_rfl) (fun hb => ?_) (fun hb => ?_)
      · replace h := cond_t hb h
        clear hb
        refine awp_skip ?_
        refine then_normal ?_
        refine awp_seq ?_
        refine awp_block ?_
        obtain ⟨hc2, h⟩ := chk_some h
        refine rgs [] [] (⟨[(1, (Q37 a_s2)), (2, (.clo 45 [] [])), (7, (.int .i64 i1)), (8, (AV.list 1 eI64 (0 : Int) (a_s1.getD (i1).toNat []) .none)), (15, (Q36 a_s1)), (16, (Q38 a_s1)), (17, (.int .i64 i1))], [], []⟩ : St) [(InB i1 a_s1.length)] hn mix (no_hand hΓ) (by kernel_rfl) ⟨hc2, trivial⟩ ?_
        obtain ⟨hc3, h⟩ := chk_some h
        refine rgs [] [] (⟨[(1, (Q37 a_s2)), (2, (.clo 45 [] [])), (8, (AV.list 1 eI64 (0 : Int) (a_s1.getD (i1).toNat []) .none)), (9, (AV.list 1 eI64 (0 : Int) (a_s2.getD (i1).toNat []) .none)), (15, (Q36 a_s1)), (16, (Q38 a_s1)), (17, (.int .i64 i1))], [], []⟩ : St) [(InB i1 a_s2.length)] hn mix (no_hand hΓ) (by kernel_rfl) ⟨hc3, trivial⟩ ?_
        obtain ⟨x4, hx4, h⟩ := bind_some h
        refine rgs [⟨[], [], (.bool x4), []⟩] [] (⟨[(1, (Q37 a_s2)), (2, (.clo 45 [] [])), (15, (Q36 a_s1)), (16, (Q38 a_s1)), (17, (.int .i64 i1)), (30, (.bool (!x4)))], [], []⟩ : St) [(Spec Try.prog 45 [(AV.list 1 eI64 (0 : Int) (a_s1.getD (i1).toNat []) .none), (AV.list 1 eI64 (0 : Int) (a_s2.getD (i1).toNat []) .none)] [] (.bool x4) [])] hn mix (no_hand hΓ) (by kernel_rfl) ⟨(ok_slices_Equal_int_int (a_s1.getD (i1).toNat []) (a_s2.getD (i1).toNat []) x4 hx4), trivial⟩ ?_
        refine awp_cond (!x4) (by kernel_rfl) (fun hb => ?_) (fun hb => ?_)
        · replace h := cond_t hb h
          clear hb
          refine rgs0 (⟨[(6, (.bool false))], [], []⟩ : St) hn mix (no_hand hΓ) (by kernel_rfl) ?_
          refine awp_ret ?_
          refine block_ret ?_
          refine then_ret ?_
          obtain rfl := Option.some.inj h
          exact ⟨(by intro hh; cases hh), rfl, ⟨.inl rfl, [], by kernel_rfl⟩⟩
        · replace h := cond_f hb h
          clear hb
          refine awp_skip ?_
          refine block_normal ?_
          refine then_normal ?_
          refine rg0 (⟨[(1, (Q37 a_s2)), (2, (.clo 45 [] [])), (15, (Q36 a_s1)), (16, (Q38 a_s1)), (17, (.int .i64 (w64 (i1 + (1 : Int)))))], [], []⟩ : St) hn mix (no_hand hΓ) (by kernel_rfl) ?_
          obtain rfl := Option.some.inj h
          exact ⟨rfl, Le.refl _ _⟩
      · replace h := cond_f hb h
        clear hb
        refine awp_exit ?_
        refine then_exit ?_
        obtain rfl := Option.some.inj h
        exact ⟨(by intro hh; cases hh), rfl, le_restrict_eq [] [] (by kernel_rfl) (no_hand hΓ)⟩
    · clear hx5
      rcases x5 with _ | r7
      · rintro e st' ⟨rfl, hl6⟩
        refine block_here ?_
        refine then_normal ?_
        refine awp_le hl6 ?_
        refine rgs0 (⟨[(6, (.bool true))], [], []⟩ : St) hn mix (no_hand hΓ) (by kernel_rfl) ?_
        refine awp_ret ?_
        obtain rfl := Option.some.inj h
        exact ⟨.inl rfl, [], by kernel_rfl⟩
      · rintro e st' ⟨rfl, hk⟩
        refine block_ret ?_
        refine then_ret ?_
        obtain rfl := Option.some.inj h
        exact hk

noncomputable def m_graph_May (a_g : TGraph) : Option Bool :=
  ((m_graph_succMay a_g.Succ).bind fun x1 => ((bif (x1 == true) then m_graph_comers a_g.Succ else some []).bind fun x2 => ((bif (x1 == true) then m_slices_EqualFunc_int_int_int_int a_g.Pred x2 else some false).bind fun x3 => (some (bif x1 then x3 else false)))))
theorem ok_graph_May (a_g : TGraph) (r : Bool) (h : m_graph_May a_g = some r) : Spec Try.prog 34 [(.agg (eTGraph a_g))] [] (.bool r) [] := by
  refine spec_of_awp (fn := Try.f34) Try.func34 rfl rfl (by kernel_rfl) (fun Γ hn hΓ => ?_)
  have hn : Γ.n = 14 := hn
  unfold m_graph_May at h
  refine rgs0 (⟨[(1, (.ptr 1 0))], [(1, .row 26 [(AV.list 1 eLI64 [] a_g.Succ .none), (AV.list 1 eLI64 [] a_g.Pred .none)])], []⟩ : St) hn mix (no_hand hΓ) (by kernel_rfl) ?_
  obtain ⟨x1, hx1, h⟩ := bind_some h
  obtain ⟨x2, hx2, h⟩ := bind_some h
  obtain ⟨x3, hx3, h⟩ := bind_some h
  refine rgs [⟨[], [], (.bool x1), []⟩, ⟨[], [], (AV.list 1 eLI64 [] x2 .none), []⟩, ⟨[], [], (.bool x3), []⟩] [] (⟨[(2, (.bool (bif x1 then x3 else false)))], [], []⟩ : St) [(Spec Try.prog 24 [(AV.list 1 eLI64 [] a_g.Succ .none)] [] (.bool x1) []), ((x1 == true) = true → (x1 == true) = true), ((x1 == true) = true → (x1 == true) = true), ((x1 == true) = true → (x1 == true) = true), ((x1 == true) = true → (Spec Try.prog 26 [(AV.list 1 eLI64 [] a_g.Succ .none)] [] (AV.list 1 eLI64 [] x2 .none) [])), ((x1 == true) = true → (x1 == true) = true), ((x1 == true) = true → (x1 == true) = true), ((x1 == true) = true → (Spec Try.prog 44 [(AV.list 1 eLI64 [] a_g.Pred .none), (AV.list 1 eLI64 [] x2 .none), (.clo 45 [] [])] [] (.bool x3) [])), (x1 = true → (x1 == true) = true)] hn mix (no_hand hΓ) (by kernel_rfl) ⟨(ok_graph_succMay a_g.Succ x1 hx1), (fun hg => hg), (fun hg => hg), (fun hg => hg), (fun hg => (Spec.drop (ok_graph_comers a_g.Succ x2 (cond_t hg hx2)))), (fun hg => hg), (fun hg => hg), (fun hg => (ok_slices_EqualFunc_int_int_int_int a_g.Pred x2 x3 (cond_t hg hx3))), gT, trivial⟩ ?_
  refine awp_ret ?_
  obtain rfl := Option.some.inj h
  exact ⟨.inl rfl, [], by kernel_rfl⟩

noncomputable def m_slices_Reverse_int_int_L1  : (Int × Int × List (Int)) → Option (LR (Int × Int × List (Int)) (List (Int))) :=
  fun ((i1, i2, l3) : (Int × Int × List (Int))) => (bif (decide ((i1 : Int) < i2)) then (chk (InB i2 l3.length) (chk (InB i1 l3.length) (chk (InB i1 l3.length) (chk (InB i2 l3.length) (some (.next ((w64 (i1 + (1 : Int))), (w64 (i2 - (1 : Int))), ((l3.set (i1).toNat (l3.getD (i2).toNat (0 : Int))).set (i2).toNat (l3.getD (i1).toNat (0 : Int)))))))))) else (some (.done l3)))
noncomputable def Q41 (l3 : List (Int)) : List (Nat × Own) := [(34000, .arr 1 3 l3.length (fun i => eI64 (l3.getD i (0 : Int))))]
noncomputable def Q40 (l3 : List (Int)) (i1 : Int) (i2 : Int) : List (Nat × AV) := [(0, (.vsl 34000 l3.length)), (2, (.int .i64 i1)), (3, (.int .i64 i2))]
noncomputable def Q39 (l3 : List (Int)) (i1 : Int) (i2 : Int) := ((l3.set (i1).toNat (l3.getD (i2).toNat (0 : Int))).set (i2).toNat (l3.getD (i1).toNat (0 : Int)))
noncomputable def m_slices_Reverse_int_int (a_s : List (Int)) : Option (List (Int)) :=
  ((loopO (S := (Int × Int × List (Int))) (X := List (Int)) m_slices_Reverse_int_int_L1 ((0 : Int), (w64 ((a_s.length : Int) - (1 : Int))), a_s)).bind (fun x9 => ((some x9))))
theorem ok_slices_Reverse_int_int (a_s : List (Int)) (r : List (Int)) (h : m_slices_Reverse_int_int a_s = some r) : Spec Try.prog 36 [(.vsl 34000 a_s.length)] [(34000, .arr 1 3 a_s.length (fun i => eI64 (a_s.getD i (0 : Int))))] (.tuple []) [(34000, .arr 1 3 r.length (fun i => eI64 (r.getD i (0 : Int))))] := by
  refine spec_of_awp (fn := Try.f36) Try.func36 rfl rfl (by kernel_rfl) (fun Γ hn hΓ => ?_)
  have hn : Γ.n = 28 := hn
  unfold m_slices_Reverse_int_int at h
  refine awp_cl ?_
  refine rgs0 (⟨[(0, (.vsl 34000 a_s.length)), (2, (.int .i64 (0 : Int))), (3, (.int .i64 (w64 ((a_s.length : Int) - (1 : Int)))))], [(34000, .arr 1 3 a_s.length (fun i => eI64 (a_s.getD i (0 : Int))))], []⟩ : St) hn mix (hand_in hΓ rfl) (by kernel_rfl) ?_
  refine awp_block ?_
  refine awp_le (st' := (fun ((i1, i2, l3) : (Int × Int × List (Int))) => (⟨(Q40 l3 i1 i2), (Q41 l3), []⟩ : St)) ((0 : Int), (w64 ((a_s.length : Int) - (1 : Int))), a_s)) (Le.refl _ _) ?_
  obtain ⟨x9, hx9, h⟩ := bind_some h
  refine awp_loop (fun ((i1, i2, l3) : (Int × Int × List (Int))) => (⟨(Q40 l3 i1 i2), (Q41 l3), []⟩ : St)) _ (fun (l4 : List (Int)) (e : Exit) (st : St) => e = (.exit 0) ∧ Le Γ st (⟨[], [(34000, .arr 1 3 l4.length (fun i => eI64 (l4.getD i (0 : Int))))], []⟩ : St)) ?_ hx9 ?_
  · rintro ⟨i1, i2, l3⟩ y h
    unfold m_slices_Reverse_int_int_L1 at h
    refine awp_seq ?_
    refine rgs0 (⟨[(0, (.vsl 34000 l3.length)), (2, (.int .i64 i1)), (3, (.int .i64 i2)), (9, (.bool (decide ((i1 : Int) < i2))))], (Q41 l3), []⟩ : St) hn mix (hand_in hΓ rfl) (by kernel_rfl) ?_
    refine awp_cond (decide ((i1 : Int) < i2)) (by kernel_rfl) (fun hb => ?_) (fun hb => ?_)
    · replace h := cond_t hb h
      clear hb
      refine awp_skip ?_
      refine then_normal ?_
      refine awp_seq ?_
      refine awp_block ?_
      obtain ⟨hc5, h⟩ := chk_some h
      obtain ⟨hc6, h⟩ := chk_some h
      obtain ⟨hc7, h⟩ := chk_some h
      obtain ⟨hc8, h⟩ := chk_some h
      refine rg [] [] (⟨(Q40 l3 i1 i2), [(34000, .arr 1 3 l3.length (fun i_ => AV.eraseAll (fun n_ => memB n_ [34000]) ((putF (putF (fun i => eI64 (l3.getD i (0 : Int))) (i1).toNat 0 [(.int .i64 (l3.getD (i2).toNat (0 : Int)))]) (i2).toNat 0 [(.int .i64 (l3.getD (i1).toNat (0 : Int)))]) i_)))], []⟩ : St) [(InB i2 l3.length), (l3.length = l3.length), (InB i1 l3.length), (l3.length = l3.length), (InB i1 l3.length), (l3.length = l3.length), (InB i2 l3.length), (l3.length = l3.length)] hn mix (hand_in hΓ rfl) (by kernel_rfl) ⟨hc5, rfl, hc6, rfl, hc7, rfl, hc8, rfl, trivial⟩ ?_
      refine block_normal ?_
      refine then_normal ?_
      refine awp_le (Le.trans (le_of (st' := (⟨(Q40 l3 i1 i2), [(34000, .arr 1 3 l3.length (fun i => eI64 ((Q39 l3 i1 i2).getD i (0 : Int))))], []⟩ : St)) (TmpsLe.refl _) (.arr (leL_of_eq (Eq.trans (List.length_set ..).symm (List.length_set ..).symm) (fun k_ hk_ => (congrArg (AV.eraseAll (fun n_ => memB n_ [34000])) ((putF_set (putF_set (fun _ _ => rfl) (inB_lt0 hc7) rfl) (inB_lt1 hc8) rfl) k_ hk_)).trans rfl)) .nil)) (le_eq (congrArg (fun k_ : Nat => (⟨[(0, (.vsl 34000 k_)), (2, (.int .i64 i1)), (3, (.int .i64 i2))], [(34000, .arr 1 3 k_ (fun i => eI64 ((Q39 l3 i1 i2).getD i (0 : Int))))], []⟩ : St)) (show l3.length = (Q39 l3 i1 i2).length from (Eq.trans (List.length_set ..).symm (List.length_set ..).symm))))) ?_
      refine rg0 (⟨[(0, (.vsl 34000 (Q39 l3 i1 i2).length)), (2, (.int .i64 (w64 (i1 + (1 : Int))))), (3, (.int .i64 (w64 (i2 - (1 : Int)))))], [(34000, .arr 1 3 ((Q39 l3 i1 i2).length) (fun i => eI64 ((Q39 l3 i1 i2).getD i (0 : Int))))], []⟩ : St) hn mix (hand_in hΓ rfl) (by kernel_rfl) ?_
      obtain rfl := Option.some.inj h
      exact ⟨rfl, Le.refl _ _⟩
    · replace h := cond_f hb h
      clear hb
      refine awp_exit ?_
      refine then_exit ?_
      obtain rfl := Option.some.inj h
      exact ⟨(by intro hh; cases hh), rfl, le_restrict_eq [] [34000] (by kernel_rfl) (hand_in hΓ rfl)⟩
  · clear hx9
    rintro e st' ⟨rfl, hl10⟩
    refine block_here ?_
    obtain rfl := Option.some.inj h
    exact cl_of (hl10) ⟨.inr rfl, [(34000, 34000)], by kernel_rfl⟩

noncomputable def m_graph_Order_L1 (a_g : TGraph) (a_p1 : Int) : List (Int) → Option (LR (List (Int)) (List (Int) ⊕ (List (Bool) × List (Int) × List (Int)))) :=
  fun (l9 : List (Int)) => (chk (InB ([a_p1].getD ((w64 (([a_p1].length : Int) - (1 : Int)))).toNat (0 : Int)) 64) (chk (InB ([a_p1].getD ((w64 (([a_p1].length : Int) - (1 : Int)))).toNat (0 : Int)) a_g.Succ.length) (bif (decide (((l9.getD (([a_p1].getD ((w64 (([a_p1].length : Int) - (1 : Int)))).toNat (0 : Int))).toNat (0 : Int)) : Int) < ((a_g.Succ.getD (([a_p1].getD ((w64 (([a_p1].length : Int) - (1 : Int)))).toNat (0 : Int))).toNat []).length : Int))) then (chk (InB ([a_p1].getD ((w64 (([a_p1].length : Int) - (1 : Int)))).toNat (0 : Int)) a_g.Succ.length) (chk (InB ([a_p1].getD ((w64 (([a_p1].length : Int) - (1 : Int)))).toNat (0 : Int)) 64) (chk (InB (l9.getD (([a_p1].getD ((w64 (([a_p1].length : Int) - (1 : Int)))).toNat (0 : Int))).toNat (0 : Int)) (a_g.Succ.getD (([a_p1].getD ((w64 (([a_p1].length : Int) - (1 : Int)))).toNat (0 : Int))).toNat []).length) (chk (InB ([a_p1].getD ((w64 (([a_p1].length : Int) - (1 : Int)))).toNat (0 : Int)) 64) (chk (InB ([a_p1].getD ((w64 (([a_p1].length : Int) - (1 : Int)))).toNat (0 : Int)) 64) (chk (InB ((a_g.Succ.getD (([a_p1].getD ((w64 (([a_p1].length : Int) - (1 : Int)))).toNat (0 : Int))).toNat []).getD ((l9.getD (([a_p1].getD ((w64 (([a_p1].length : Int) - (1 : Int)))).toNat (0 : Int))).toNat (0 : Int))).toNat (0 : Int)) 64) (bif (!((setN 64 false (List.replicate 64 false) (a_p1).toNat true).getD (((a_g.Succ.getD (([a_p1].getD ((w64 (([a_p1].length : Int) - (1 : Int)))).toNat (0 : Int))).toNat []).getD ((l9.getD (([a_p1].getD ((w64 (([a_p1].length : Int) - (1 : Int)))).toNat (0 : Int))).toNat (0 : Int))).toNat (0 : Int))).toNat false)) then (chk (InB ((a_g.Succ.getD (([a_p1].getD ((w64 (([a_p1].length : Int) - (1 : Int)))).toNat (0 : Int))).toNat []).getD ((l9.getD (([a_p1].getD ((w64 (([a_p1].length : Int) - (1 : Int)))).toNat (0 : Int))).toNat (0 : Int))).toNat (0 : Int)) 64) (chk ([a_p1].length + ([((a_g.Succ.getD (([a_p1].getD ((w64 (([a_p1].length : Int) - (1 : Int)))).toNat (0 : Int))).toNat []).getD ((l9.getD (([a_p1].getD ((w64 (([a_p1].length : Int) - (1 : Int)))).toNat (0 : Int))).toNat (0 : Int))).toNat (0 : Int))] : List (Int)).length ≤ room) (some (.done (.inr ((setN 64 false (setN 64 false (List.replicate 64 false) (a_p1).toNat true) (((a_g.Succ.getD (([a_p1].getD ((w64 (([a_p1].length : Int) - (1 : Int)))).toNat (0 : Int))).toNat []).getD ((l9.getD (([a_p1].getD ((w64 (([a_p1].length : Int) - (1 : Int)))).toNat (0 : Int))).toNat (0 : Int))).toNat (0 : Int))).toNat true), (setN 64 (0 : Int) l9 (([a_p1].getD ((w64 (([a_p1].length : Int) - (1 : Int)))).toNat (0 : Int))).toNat (w64 ((l9.getD (([a_p1].getD ((w64 (([a_p1].length : Int) - (1 : Int)))).toNat (0 : Int))).toNat (0 : Int)) + (1 : Int)))), ([a_p1] ++ ([((a_g.Succ.getD (([a_p1].getD ((w64 (([a_p1].length : Int) - (1 : Int)))).toNat (0 : Int))).toNat []).getD ((l9.getD (([a_p1].getD ((w64 (([a_p1].length : Int) - (1 : Int)))).toNat (0 : Int))).toNat (0 : Int))).toNat (0 : Int))] : List (Int))))))))) else (some (.next (setN 64 (0 : Int) l9 (([a_p1].getD ((w64 (([a_p1].length : Int) - (1 : Int)))).toNat (0 : Int))).toNat (w64 ((l9.getD (([a_p1].getD ((w64 (([a_p1].length : Int) - (1 : Int)))).toNat (0 : Int))).toNat (0 : Int)) + (1 : Int))))))))))))) else (some (.done (.inl l9))))))
noncomputable def m_graph_Order_L2 (a_g : TGraph) (l1 : List (Bool)) (l3 : List (Int)) : List (Int) → Option (LR (List (Int)) (List (Int) ⊕ (List (Bool) × List (Int) × List (Int)))) :=
  fun (l32 : List (Int)) => (chk (InB (l3.getD ((w64 ((l3.length : Int) - (1 : Int)))).toNat (0 : Int)) 64) (chk (InB (l3.getD ((w64 ((l3.length : Int) - (1 : Int)))).toNat (0 : Int)) a_g.Succ.length) (bif (decide (((l32.getD ((l3.getD ((w64 ((l3.length : Int) - (1 : Int)))).toNat (0 : Int))).toNat (0 : Int)) : Int) < ((a_g.Succ.getD ((l3.getD ((w64 ((l3.length : Int) - (1 : Int)))).toNat (0 : Int))).toNat []).length : Int))) then (chk (InB (l3.getD ((w64 ((l3.length : Int) - (1 : Int)))).toNat (0 : Int)) a_g.Succ.length) (chk (InB (l3.getD ((w64 ((l3.length : Int) - (1 : Int)))).toNat (0 : Int)) 64) (chk (InB (l32.getD ((l3.getD ((w64 ((l3.length : Int) - (1 : Int)))).toNat (0 : Int))).toNat (0 : Int)) (a_g.Succ.getD ((l3.getD ((w64 ((l3.length : Int) - (1 : Int)))).toNat (0 : Int))).toNat []).length) (chk (InB (l3.getD ((w64 ((l3.length : Int) - (1 : Int)))).toNat (0 : Int)) 64) (chk (InB (l3.getD ((w64 ((l3.length : Int) - (1 : Int)))).toNat (0 : Int)) 64) (chk (InB ((a_g.Succ.getD ((l3.getD ((w64 ((l3.length : Int) - (1 : Int)))).toNat (0 : Int))).toNat []).getD ((l32.getD ((l3.getD ((w64 ((l3.length : Int) - (1 : Int)))).toNat (0 : Int))).toNat (0 : Int))).toNat (0 : Int)) 64) (bif (!(l1.getD (((a_g.Succ.getD ((l3.getD ((w64 ((l3.length : Int) - (1 : Int)))).toNat (0 : Int))).toNat []).getD ((l32.getD ((l3.getD ((w64 ((l3.length : Int) - (1 : Int)))).toNat (0 : Int))).toNat (0 : Int))).toNat (0 : Int))).toNat false)) then (chk (InB ((a_g.Succ.getD ((l3.getD ((w64 ((l3.length : Int) - (1 : Int)))).toNat (0 : Int))).toNat []).getD ((l32.getD ((l3.getD ((w64 ((l3.length : Int) - (1 : Int)))).toNat (0 : Int))).toNat (0 : Int))).toNat (0 : Int)) 64) (chk (l3.length + ([((a_g.Succ.getD ((l3.getD ((w64 ((l3.length : Int) - (1 : Int)))).toNat (0 : Int))).toNat []).getD ((l32.getD ((l3.getD ((w64 ((l3.length : Int) - (1 : Int)))).toNat (0 : Int))).toNat (0 : Int))).toNat (0 : Int))] : List (Int)).length ≤ room) (some (.done (.inr ((setN 64 false l1 (((a_g.Succ.getD ((l3.getD ((w64 ((l3.length : Int) - (1 : Int)))).toNat (0 : Int))).toNat []).getD ((l32.getD ((l3.getD ((w64 ((l3.length : Int) - (1 : Int)))).toNat (0 : Int))).toNat (0 : Int))).toNat (0 : Int))).toNat true), (setN 64 (0 : Int) l32 ((l3.getD ((w64 ((l3.length : Int) - (1 : Int)))).toNat (0 : Int))).toNat (w64 ((l32.getD ((l3.getD ((w64 ((l3.length : Int) - (1 : Int)))).toNat (0 : Int))).toNat (0 : Int)) + (1 : Int)))), (l3 ++ ([((a_g.Succ.getD ((l3.getD ((w64 ((l3.length : Int) - (1 : Int)))).toNat (0 : Int))).toNat []).getD ((l32.getD ((l3.getD ((w64 ((l3.length : Int) - (1 : Int)))).toNat (0 : Int))).toNat (0 : Int))).toNat (0 : Int))] : List (Int))))))))) else (some (.next (setN 64 (0 : Int) l32 ((l3.getD ((w64 ((l3.length : Int) - (1 : Int)))).toNat (0 : Int))).toNat (w64 ((l32.getD ((l3.getD ((w64 ((l3.length : Int) - (1 : Int)))).toNat (0 : Int))).toNat (0 : Int)) + (1 : Int))))))))))))) else (some (.done (.inl l32))))))
noncomputable def m_graph_Order_F3 (a_g : TGraph) : (List (Bool) × List (Int) × List (Int) × List (Int)) → Option (LR (List (Bool) × List (Int) × List (Int) × List (Int)) (List (Int))) :=
  fun (s_ : (List (Bool) × List (Int) × List (Int) × List (Int))) => match s_ with | (l1, l2, l3, l4) => (chk (InB (w64 ((l3.length : Int) - (1 : Int))) l3.length) ((loopO (S := List (Int)) (X := (List (Int) ⊕ (List (Bool) × List (Int) × List (Int)))) (m_graph_Order_L2 a_g l1 l3) l2).bind (fun x47 => (match x47 with | (.inl l33) => (chk (l4.length + ([(l3.getD ((w64 ((l3.length : Int) - (1 : Int)))).toNat (0 : Int))] : List (Int)).length ≤ room) (chk (0 ≤ (w64 ((l3.length : Int) - (1 : Int))) ∧ 0 + ((w64 ((l3.length : Int) - (1 : Int)))).toNat ≤ l3.length) (bif (decide (((0 : Int) : Int) < ((l3.take ((w64 ((l3.length : Int) - (1 : Int)))).toNat).length : Int))) then (some (.next (l1, l33, (l3.take ((w64 ((l3.length : Int) - (1 : Int)))).toNat), (l4 ++ ([(l3.getD ((w64 ((l3.length : Int) - (1 : Int)))).toNat (0 : Int))] : List (Int)))))) else ((m_slices_Reverse_int_int (l4 ++ ([(l3.getD ((w64 ((l3.length : Int) - (1 : Int)))).toNat (0 : Int))] : List (Int)))).bind fun x51 => (chk ((l4 ++ ([(l3.getD ((w64 ((l3.length : Int) - (1 : Int)))).toNat (0 : Int))] : List (Int))).length = x51.length) (some (.done x51))))))) | (.inr (l34, l35, l36)) => (some (.next (l34, l35, l36, l4)))))))
noncomputable def Q89 (l4 : List (Int)) : AV := (.vsl 36007 l4.length)
noncomputable def Q77 := (([] : List Int).length)
noncomputable def Q63 (l3 : List (Int)) := (w64 ((l3.length : Int) - (1 : Int)))
noncomputable def Q43 (l3 : List (Int)) := (l3.getD ((Q63 l3)).toNat (0 : Int))
noncomputable def Q85 (l3 : List (Int)) := ([(Q43 l3)] : List (Int))
noncomputable def Q87 (l3 : List (Int)) := (l3.take ((Q63 l3)).toNat)
noncomputable def Q53 (l1 : List (Bool)) := (fun i => eB (l1.getD i false))
noncomputable def Q61 (a_p1 : Int) := (w64 (([a_p1].length : Int) - (1 : Int)))
noncomputable def Q84 (a_p1 : Int) := ([a_p1].take ((Q61 a_p1)).toNat)
noncomputable def Q60 (l4 : List (Int)) (l3 : List (Int)) := (l4 ++ (Q85 l3))
noncomputable def Q55 (a_g : TGraph) (l3 : List (Int)) (l32 : List (Int)) := ((a_g.Succ.getD ((Q43 l3)).toNat []).getD ((l32.getD ((Q43 l3)).toNat (0 : Int))).toNat (0 : Int))
noncomputable def Q70 (a_g : TGraph) (l3 : List (Int)) (l32 : List (Int)) := ([(Q55 a_g l3 l32)] : List (Int))
noncomputable def Q42 (a_p1 : Int) := ([a_p1].getD ((Q61 a_p1)).toNat (0 : Int))
noncomputable def Q54 (a_g : TGraph) (a_p1 : Int) (l9 : List (Int)) := ((a_g.Succ.getD ((Q42 a_p1)).toNat []).getD ((l9.getD ((Q42 a_p1)).toNat (0 : Int))).toNat (0 : Int))
noncomputable def Q69 (a_g : TGraph) (a_p1 : Int) (l9 : List (Int)) := ([(Q54 a_g a_p1 l9)] : List (Int))
noncomputable def Q79 : AV := (.vsl 36007 ([] : List Int).length)
noncomputable def Q50 (l3 : List (Int)) := (fun i => eI64 (l3.getD i (0 : Int)))
noncomputable def Q52 (l4 : List (Int)) := (fun i => eI64 (l4.getD i (0 : Int)))
noncomputable def Q74 (l10 : List (Int)) := (fun i => eI64 (l10.getD i (0 : Int)))
noncomputable def Q75 (l33 : List (Int)) := (fun i => eI64 (l33.getD i (0 : Int)))
noncomputable def Q81 (x28 : List (Int)) := (fun i => eI64 (x28.getD i (0 : Int)))
noncomputable def Q82 (x51 : List (Int)) := (fun i => eI64 (x51.getD i (0 : Int)))
noncomputable def Q51 := (fun n_ => memB n_ [2, 5, 6, 25, 36007])
noncomputable def Q47 (a_p1 : Int) := (fun i => eI64 ([a_p1].getD i (0 : Int)))
noncomputable def Q56 (a_p1 : Int) := (([] : List Int) ++ ([(Q42 a_p1)] : List (Int)))
noncomputable def Q72 (a_p1 : Int) := (fun i => eI64 ((Q56 a_p1).getD i (0 : Int)))
noncomputable def Q71 (l4 : List (Int)) (l3 : List (Int)) := (fun i => eI64 ((Q60 l4 l3).getD i (0 : Int)))
noncomputable def Q48 : AV := (AV.list 1 eI64 (0 : Int) ([] : List Int) .exact)
noncomputable def Q46 := (fun i => eI64 (([] : List Int).getD i (0 : Int)))
noncomputable def Q80 := (fun i => eB ((List.replicate 64 false).getD i false))
noncomputable def Q76 (a_p1 : Int) := (([] : List Int).length + ([(Q42 a_p1)] : List (Int)).length)
noncomputable def Q49 := (fun i => eI64 ((List.replicate 64 (0 : Int)).getD i (0 : Int)))
noncomputable def Q44 (a_g : TGraph) : List AV := [(AV.list 1 eLI64 [] a_g.Succ .none), (AV.list 1 eLI64 [] a_g.Pred .none)]
noncomputable def Q78 (l1 : List (Bool)) (a_g : TGraph) (l3 : List (Int)) (l32 : List (Int)) := (fun i => eB ((setN 64 false l1 ((Q55 a_g l3 l32)).toNat true).getD i false))
noncomputable def Q45 (a_p1 : Int) := (fun i => eB ((setN 64 false (List.replicate 64 false) (a_p1).toNat true).getD i false))
noncomputable def Q83 (a_p1 : Int) : List (Nat × AV) := [(1, (.int .i64 a_p1)), (2, (.ptr 2 0)), (5, (.vpt 5 64 0 0)), (6, (.vpt 6 64 0 0)), (7, Q48)]
noncomputable def Q88 (a_p1 : Int) : List (Nat × AV) := [(2, (.ptr 2 0)), (5, (.vpt 5 64 0 0)), (6, (.vpt 6 64 0 0)), (7, (.vsl 36007 (Q76 a_p1))), (8, (.vsl 25 [a_p1].length))]
noncomputable def Q58 (l32 : List (Int)) (l3 : List (Int)) := (fun i => eI64 ((setN 64 (0 : Int) l32 ((Q43 l3)).toNat (w64 ((l32.getD ((Q43 l3)).toNat (0 : Int)) + (1 : Int)))).getD i (0 : Int)))
noncomputable def Q57 (l9 : List (Int)) (a_p1 : Int) := (fun i => eI64 ((setN 64 (0 : Int) l9 ((Q42 a_p1)).toNat (w64 ((l9.getD ((Q42 a_p1)).toNat (0 : Int)) + (1 : Int)))).getD i (0 : Int)))
noncomputable def Q67 (a_p1 : Int) (a_g : TGraph) (l9 : List (Int)) := (fun i => eB ((setN 64 false (setN 64 false (List.replicate 64 false) (a_p1).toNat true) ((Q54 a_g a_p1 l9)).toNat true).getD i false))
noncomputable def Q86 (a_p1 : Int) : List (Nat × AV) := [(2, (.ptr 2 0)), (5, (.vpt 5 64 0 0)), (6, (.vpt 6 64 0 0)), (7, (.vsl 36007 (Q56 a_p1).length)), (8, (.vsl 25 (0 + ((Q61 a_p1)).toNat)))]
noncomputable def Q65 (l4 : List (Int)) (l3 : List (Int)) : List (Nat × AV) := [(2, (.ptr 2 0)), (5, (.vpt 5 64 0 0)), (6, (.vpt 6 64 0 0)), (7, (Q89 l4)), (8, (.vsl 25 l3.length)), (9, (.int .i64 (Q43 l3)))]
noncomputable def Q64 (a_p1 : Int) : List (Nat × AV) := [(2, (.ptr 2 0)), (5, (.vpt 5 64 0 0)), (6, (.vpt 6 64 0 0)), (7, Q79), (8, (.vsl 25 [a_p1].length)), (9, (.int .i64 (Q42 a_p1)))]
noncomputable def Q68 (l4 : List (Int)) (l3 : List (Int)) (a_g : TGraph) (l32 : List (Int)) : List (Nat × AV) := [(2, (.ptr 2 0)), (5, (.vpt 5 64 0 0)), (6, (.vpt 6 64 0 0)), (7, (Q89 l4)), (8, (.vsl 25 l3.length)), (9, (.int .i64 (Q43 l3))), (10, (.int .i64 (Q55 a_g l3 l32)))]
noncomputable def Q62 (a_g : TGraph) (l1 : List (Bool)) (l32 : List (Int)) (l3 : List (Int)) (l4 : List (Int)) : List (Nat × Own) := [(2, .row 26 (Q44 a_g)), (5, .arr 1 49 64 (Q53 l1)), (6, .arr 1 50 64 (fun i => eI64 (l32.getD i (0 : Int)))), (25, .arr 1 3 l3.length (Q50 l3)), (36007, .arr 1 3 l4.length (Q52 l4))]
noncomputable def Q66 (a_p1 : Int) (a_g : TGraph) (l9 : List (Int)) : List (Nat × AV) := [(2, (.ptr 2 0)), (5, (.vpt 5 64 0 0)), (6, (.vpt 6 64 0 0)), (7, Q79), (8, (.vsl 25 [a_p1].length)), (9, (.int .i64 (Q42 a_p1))), (10, (.int .i64 (Q54 a_g a_p1 l9)))]
noncomputable def Q59 (a_g : TGraph) (a_p1 : Int) (l9 : List (Int)) : List (Nat × Own) := [(2, .row 26 (Q44 a_g)), (5, .arr 1 49 64 (Q45 a_p1)), (6, .arr 1 50 64 (fun i => eI64 (l9.getD i (0 : Int)))), (25, .arr 1 3 ([a_p1].length) (Q47 a_p1)), (36007, .arr 1 3 Q77 Q46)]
noncomputable def Q73 (a_p1 : Int) (a_g : TGraph) := (⟨[(2, (.ptr 2 0)), (5, (.vpt 5 64 0 0)), (6, (.vpt 6 64 0 0)), (7, Q48), (8, (.vsl 25 [a_p1].length)), (9, (.int .i64 (Q42 a_p1)))], [(2, .row 26 (Q44 a_g)), (5, .arr 1 49 64 (Q45 a_p1)), (6, .arr 1 50 64 Q49), (25, .arr 1 3 ([a_p1].length) (Q47 a_p1))], []⟩ : St)
noncomputable def m_graph_Order (a_g : TGraph) (a_p1 : Int) : Option (List (Int)) :=
  ((scopeO (S := (List (Bool) × List (Int) × List (Int) × List (Int))) (X := List (Int)) ((m_graph_May a_g).bind fun x5 => ((bif ((!x5) == false) then m_graph_isPlace a_p1 (a_g.Succ.length : Int) else some false).bind fun x6 => (bif (bif (!x5) then true else (!x6)) then (some (.done ([] : List Int))) else (chk (InB a_p1 64) (chk (InB (w64 (([a_p1].length : Int) - (1 : Int))) [a_p1].length) ((loopO (S := List (Int)) (X := (List (Int) ⊕ (List (Bool) × List (Int) × List (Int)))) (m_graph_Order_L1 a_g a_p1) (List.replicate 64 (0 : Int))).bind (fun x24 => (match x24 with | (.inl l10) => (chk (([] : List Int).length + ([([a_p1].getD ((w64 (([a_p1].length : Int) - (1 : Int)))).toNat (0 : Int))] : List (Int)).length ≤ room) (chk (0 ≤ (w64 (([a_p1].length : Int) - (1 : Int))) ∧ 0 + ((w64 (([a_p1].length : Int) - (1 : Int)))).toNat ≤ [a_p1].length) (bif (decide (((0 : Int) : Int) < (([a_p1].take ((w64 (([a_p1].length : Int) - (1 : Int)))).toNat).length : Int))) then (some (.next ((setN 64 false (List.replicate 64 false) (a_p1).toNat true), l10, ([a_p1].take ((w64 (([a_p1].length : Int) - (1 : Int)))).toNat), (([] : List Int) ++ ([([a_p1].getD ((w64 (([a_p1].length : Int) - (1 : Int)))).toNat (0 : Int))] : List (Int)))))) else ((m_slices_Reverse_int_int (([] : List Int) ++ ([([a_p1].getD ((w64 (([a_p1].length : Int) - (1 : Int)))).toNat (0 : Int))] : List (Int)))).bind fun x28 => (chk ((([] : List Int) ++ ([([a_p1].getD ((w64 (([a_p1].length : Int) - (1 : Int)))).toNat (0 : Int))] : List (Int))).length = x28.length) (some (.done x28))))))) | (.inr (l11, l12, l13)) => (some (.next (l11, l12, l13, ([] : List Int)))))))))))) (m_graph_Order_F3 a_g)).bind (fun x54 => ((some x54))))
theorem ok_graph_Order (a_g : TGraph) (a_p1 : Int) (r : List (Int)) (h : m_graph_Order a_g a_p1 = some r) : Spec Try.prog 20 [(.agg (eTGraph a_g)), (.int .i64 a_p1)] [] (AV.list 1 eI64 (0 : Int) r (.own 20000)) [(20000, .tok 1 3 r.length)] := by
  refine spec_of_awp (fn := Try.f20) Try.func20 rfl rfl (by kernel_rfl) (fun Γ hn hΓ => ?_)
  have hn : Γ.n = 82 := hn
  unfold m_graph_Order at h
  refine rgs [] [(4, Q48)] (⟨[(1, (.int .i64 a_p1)), (2, (.ptr 2 0))], [(2, .row 26 (Q44 a_g))], []⟩ : St) [(AVle (.slice 0 0 (fun _ => []) .exact) Q48)] hn mix (no_hand hΓ) (by kernel_rfl) ⟨av_nil, trivial⟩ ?_
  obtain ⟨x54, hx54, h⟩ := bind_some h
  refine awp_scope (S := (List (Bool) × List (Int) × List (Int) × List (Int))) (X := List (Int)) (fun (s_ : (List (Bool) × List (Int) × List (Int) × List (Int))) => match s_ with | (l1, l2, l3, l4) => 0) (fun (s_ : (List (Bool) × List (Int) × List (Int) × List (Int))) => match s_ with | (l1, l2, l3, l4) => (⟨[(2, (.ptr 2 0)), (5, (.vpt 5 64 0 0)), (6, (.vpt 6 64 0 0)), (7, (Q89 l4)), (8, (.vsl 25 l3.length))], [(2, .row 26 (Q44 a_g)), (5, .arr 1 49 64 (Q53 l1)), (6, .arr 1 50 64 (fun i => eI64 (l2.getD i (0 : Int)))), (25, .arr 1 3 l3.length (Q50 l3)), (36007, .arr 1 3 l4.length (Q52 l4))], []⟩ : St)) _ _ (fun (r_ : List (Int)) (e : Exit) (st : St) => e = .ret ∧ retK Try.prog Try.f20.results.toList [] (AV.list 1 eI64 (0 : Int) r_ (.own 20000)) [(20000, .tok 1 3 r_.length)] e st) ?_ ?_ hx54 ?_
  · clear h hx54
    intro y h
    refine awp_seq ?_
    obtain ⟨x5, hx5, h⟩ := bind_some h
    obtain ⟨x6, hx6, h⟩ := bind_some h
    refine rgs [⟨[], [], (.bool x5), []⟩, ⟨[], [], (.bool x6), []⟩] [] (⟨[(1, (.int .i64 a_p1)), (2, (.ptr 2 0)), (21, (.bool (bif (!x5) then true else (!x6))))], [(2, .row 26 (Q44 a_g))], []⟩ : St) [(Spec Try.prog 34 [(.agg (eTGraph a_g))] [] (.bool x5) []), (((!x5) == false) = true → ((!x5) == false) = true), (((!x5) == false) = true → ((!x5) == false) = true), (((!x5) == false) = true → ((!x5) == false) = true), (((!x5) == false) = true → ((!x5) == false) = true), (((!x5) == false) = true → (Spec Try.prog 35 [(.int .i64 a_p1), (.int .i64 (a_g.Succ.length : Int))] [] (.bool x6) [])), (((!x5) == false) = true → ((!x5) == false) = true), ((!x5) = false → ((!x5) == false) = true)] hn mix (no_hand hΓ) (by kernel_rfl) ⟨(ok_graph_May a_g x5 hx5), (fun hg => hg), (fun hg => hg), (fun hg => hg), (fun hg => hg), (fun hg => (ok_graph_isPlace a_p1 (a_g.Succ.length : Int) x6 (cond_t hg hx6))), (fun hg => hg), gF, trivial⟩ ?_
    refine awp_cond (bif (!x5) then true else (!x6)) (by kernel_rfl) (fun hb => ?_) (fun hb => ?_)
    · replace h := cond_t hb h
      clear hb
      refine rgs [] [(4, Q48)] (⟨[(4, Q48)], [], []⟩ : St) [(AVle (.slice 0 0 (fun _ => []) .exact) Q48)] hn mix (no_hand hΓ) (by kernel_rfl) ⟨av_nil, trivial⟩ ?_
      refine awp_le (st' := (⟨[(4, (AV.list 1 eI64 (0 : Int) ([] : List Int) (.own 6004)))], [(6004, .tok 1 3 Q77)], []⟩ : St)) (Le.trans (le_restrict_eq (st' := (⟨[(4, Q48)], [], []⟩ : St)) [4] [] (by kernel_rfl) (no_hand hΓ)) (Le.trans (le_tag (t := 4) (nm := 6004) (sz' := 1) Q46 3 rfl rfl (.inl ⟨rfl, rfl⟩) (fun h_ => absurd h_ (by decide))) (le_restrict_eq (st' := (⟨[(4, (AV.list 1 eI64 (0 : Int) ([] : List Int) (.own 6004)))], [(6004, .tok 1 3 Q77)], []⟩ : St)) [4] [6004] (by kernel_rfl) (no_hand hΓ)))) ?_
      refine awp_ret ?_
      refine then_ret ?_
      obtain rfl := Option.some.inj h
      exact ⟨(by intro l hh; cases hh), rfl, ⟨.inl rfl, [(6004, 20000)], by kernel_rfl⟩⟩
    · replace h := cond_f hb h
      clear hb
      refine awp_skip ?_
      refine then_normal ?_
      refine rgs [] [(5, (.vpt 5 64 0 0))] (⟨[(1, (.int .i64 a_p1)), (2, (.ptr 2 0)), (5, (.vpt 5 64 0 0))], [(2, .row 26 (Q44 a_g)), (5, .arr 1 49 64 (fun i_ => AV.eraseAll (fun n_ => memB n_ [2, 5]) ((fun i => (((List.replicate 64 [(.bool false)]).flatten).drop (i * 1)).take 1) i_)))], []⟩ : St) [] hn mix (no_hand hΓ) (by kernel_rfl) trivial ?_
      refine awp_le (le_of (st' := (⟨[(1, (.int .i64 a_p1)), (2, (.ptr 2 0)), (5, (.vpt 5 64 0 0))], [(2, .row 26 (Q44 a_g)), (5, .arr 1 49 64 Q80)], []⟩ : St)) (TmpsLe.refl _) (.same (.arr (arrE_zero (e := eB) (d := false) (z := [(.bool false)]) rfl rfl rfl) .nil))) ?_
      refine rgs [] [(6, (.vpt 6 64 0 0))] (⟨[(1, (.int .i64 a_p1)), (2, (.ptr 2 0)), (5, (.vpt 5 64 0 0)), (6, (.vpt 6 64 0 0))], [(2, .row 26 (Q44 a_g)), (5, .arr 1 49 64 Q80), (6, .arr 1 50 64 (fun i_ => AV.eraseAll (fun n_ => memB n_ [2, 5, 6]) ((fun i => (((List.replicate 64 [(.int .i64 (0 : Int))]).flatten).drop (i * 1)).take 1) i_)))], []⟩ : St) [] hn mix (no_hand hΓ) (by kernel_rfl) trivial ?_
      refine awp_le (le_of (st' := (⟨[(1, (.int .i64 a_p1)), (2, (.ptr 2 0)), (5, (.vpt 5 64 0 0)), (6, (.vpt 6 64 0 0))], [(2, .row 26 (Q44 a_g)), (5, .arr 1 49 64 Q80), (6, .arr 1 50 64 Q49)], []⟩ : St)) (TmpsLe.refl _) (.same (.same (.arr (arrE_zero (e := eI64) (d := (0 : Int)) (z := [(.int .i64 (0 : Int))]) rfl rfl rfl) .nil)))) ?_
      refine rgs [] [(7, Q48)] (⟨(Q83 a_p1), [(2, .row 26 (Q44 a_g)), (5, .arr 1 49 64 Q80), (6, .arr 1 50 64 Q49)], []⟩ : St) [(AVle (.slice 0 0 (fun _ => []) .exact) Q48)] hn mix (no_hand hΓ) (by kernel_rfl) ⟨av_nil, trivial⟩ ?_
      obtain ⟨hc7, h⟩ := chk_some h
      refine rgs [] [] (⟨(Q83 a_p1), [(2, .row 26 (Q44 a_g)), (5, .arr 1 49 64 (fun i_ => AV.eraseAll (fun n_ => memB n_ [2, 5, 6]) ((putF Q80 (a_p1).toNat 0 [(.bool true)]) i_))), (6, .arr 1 50 64 Q49)], []⟩ : St) [(InB a_p1 64), (64 = 64)] hn mix (no_hand hΓ) (by kernel_rfl) ⟨hc7, rfl, trivial⟩ ?_
      refine awp_le (le_of (st' := (⟨(Q83 a_p1), [(2, .row 26 (Q44 a_g)), (5, .arr 1 49 64 (Q45 a_p1)), (6, .arr 1 50 64 Q49)], []⟩ : St)) (TmpsLe.refl _) (.same (.arr (leL_of_eq rfl (fun k_ hk_ => (congrArg (AV.eraseAll (fun n_ => memB n_ [2, 5, 6])) ((putF_setN (fun _ _ => rfl) (inB_lit hc7) rfl) k_ hk_)).trans rfl)) (.same .nil)))) ?_
      refine rgs [] [(25, (.vsl 25 1))] (⟨[(2, (.ptr 2 0)), (5, (.vpt 5 64 0 0)), (6, (.vpt 6 64 0 0)), (7, Q48), (8, (.vsl 25 1))], [(2, .row 26 (Q44 a_g)), (5, .arr 1 49 64 (Q45 a_p1)), (6, .arr 1 50 64 Q49), (25, .arr 1 3 1 (fun i_ => AV.eraseAll (fun n_ => memB n_ [2, 5, 6, 25]) ((fun i_ => ([(.int .i64 a_p1)].drop (i_ * 1)).take 1) i_)))], []⟩ : St) [] hn mix (no_hand hΓ) (by kernel_rfl) trivial ?_
      refine awp_le (Le.trans (le_of (st' := (⟨[(2, (.ptr 2 0)), (5, (.vpt 5 64 0 0)), (6, (.vpt 6 64 0 0)), (7, Q48), (8, (.vsl 25 1))], [(2, .row 26 (Q44 a_g)), (5, .arr 1 49 64 (Q45 a_p1)), (6, .arr 1 50 64 Q49), (25, .arr 1 3 1 (Q47 a_p1))], []⟩ : St)) (TmpsLe.refl _) (.same (.same (.same (.arr (leL_of_eq rfl (pw_snoc (n := 0) pw_nil rfl)) .nil))))) (le_eq (congrArg (fun k_ : Nat => (⟨[(2, (.ptr 2 0)), (5, (.vpt 5 64 0 0)), (6, (.vpt 6 64 0 0)), (7, Q48), (8, (.vsl 25 k_))], [(2, .row 26 (Q44 a_g)), (5, .arr 1 49 64 (Q45 a_p1)), (6, .arr 1 50 64 Q49), (25, .arr 1 3 k_ (Q47 a_p1))], []⟩ : St)) (show 1 = [a_p1].length from rfl)))) ?_
      refine awp_seq ?_
      refine awp_label ?_
      refine then_normal ?_
      obtain ⟨hc8, h⟩ := chk_some h
      refine rgs [] [] (Q73 a_p1 a_g) [(InB (Q61 a_p1) [a_p1].length), ([a_p1].length = [a_p1].length)] hn mix (no_hand hΓ) (by kernel_rfl) ⟨hc8, rfl, trivial⟩ ?_
      refine awp_seq ?_
      refine awp_block ?_
      refine awp_le (st' := (fun (l9 : List (Int)) => (⟨(Q64 a_p1), (Q59 a_g a_p1 l9), []⟩ : St)) (List.replicate 64 (0 : Int))) (Le.trans (le_restrict_eq (st' := (Q73 a_p1 a_g)) [2, 5, 6, 7, 8, 9] [2, 5, 6, 25] (by kernel_rfl) (no_hand hΓ)) (Le.trans (le_arr (t := 7) (nm := 36007) (sz' := 1) Q46 3 rfl rfl) (le_restrict_eq (st' := (⟨(Q64 a_p1), [(2, .row 26 (Q44 a_g)), (5, .arr 1 49 64 (Q45 a_p1)), (6, .arr 1 50 64 Q49), (25, .arr 1 3 ([a_p1].length) (Q47 a_p1)), (36007, .arr 1 3 Q77 Q46)], []⟩ : St)) [2, 5, 6, 7, 8, 9] [2, 5, 6, 25, 36007] (by kernel_rfl) (no_hand hΓ)))) ?_
      obtain ⟨x24, hx24, h⟩ := bind_some h
      refine awp_loop (fun (l9 : List (Int)) => (⟨(Q64 a_p1), (Q59 a_g a_p1 l9), []⟩ : St)) _ (fun (x_ : (List (Int) ⊕ (List (Bool) × List (Int) × List (Int)))) (e : Exit) (st : St) => match x_ with | (.inl l10) => e = (.exit 0) ∧ Le Γ st (⟨(Q64 a_p1), [(2, .row 26 (Q44 a_g)), (5, .arr 1 49 64 (Q45 a_p1)), (6, .arr 1 50 64 (Q74 l10)), (25, .arr 1 3 ([a_p1].length) (Q47 a_p1)), (36007, .arr 1 3 Q77 Q46)], []⟩ : St) | (.inr (l11, l12, l13)) => e = (.goto 0) ∧ Le Γ st (⟨[(2, (.ptr 2 0)), (5, (.vpt 5 64 0 0)), (6, (.vpt 6 64 0 0)), (7, Q79), (8, (.vsl 25 l13.length))], [(2, .row 26 (Q44 a_g)), (5, .arr 1 49 64 (fun i => eB (l11.getD i false))), (6, .arr 1 50 64 (fun i => eI64 (l12.getD i (0 : Int)))), (25, .arr 1 3 l13.length (fun i => eI64 (l13.getD i (0 : Int)))), (36007, .arr 1 3 Q77 Q46)], []⟩ : St)) ?_ hx24 ?_
      · intro l9 y h
        unfold m_graph_Order_L1 at h
        refine awp_seq ?_
        obtain ⟨hc14, h⟩ := chk_some h
        obtain ⟨hc15, h⟩ := chk_some h
        refine rgs [] [] (⟨[(2, (.ptr 2 0)), (5, (.vpt 5 64 0 0)), (6, (.vpt 6 64 0 0)), (7, Q79), (8, (.vsl 25 [a_p1].length)), (9, (.int .i64 (Q42 a_p1))), (41, (.bool (decide (((l9.getD ((Q42 a_p1)).toNat (0 : Int)) : Int) < ((a_g.Succ.getD ((Q42 a_p1)).toNat []).length : Int)))))], (Q59 a_g a_p1 l9), []⟩ : St) [(InB (Q42 a_p1) 64), (64 = 64), (InB (Q42 a_p1) a_g.Succ.length)] hn mix (no_hand hΓ) (by kernel_rfl) ⟨hc14, rfl, hc15, trivial⟩ ?_
        refine awp_cond (decide (((l9.getD ((Q42 a_p1)).toNat (0 : Int)) : Int) < ((a_g.Succ.getD ((Q42 a_p1)).toNat []).length : Int))) (by kernel_rfl) (fun hb => ?_) (fun hb => ?_)
        · replace h := cond_t hb h
          clear hb
          refine awp_skip ?_
          refine then_normal ?_
          refine awp_block ?_
          obtain ⟨hc16, h⟩ := chk_some h
          obtain ⟨hc17, h⟩ := chk_some h
          obtain ⟨hc18, h⟩ := chk_some h
          refine rgs [] [] (⟨(Q66 a_p1 a_g l9), (Q59 a_g a_p1 l9), []⟩ : St) [(InB (Q42 a_p1) a_g.Succ.length), (InB (Q42 a_p1) 64), (64 = 64), (InB (l9.getD ((Q42 a_p1)).toNat (0 : Int)) (a_g.Succ.getD ((Q42 a_p1)).toNat []).length)] hn mix (no_hand hΓ) (by kernel_rfl) ⟨hc16, hc17, rfl, hc18, trivial⟩ ?_
          obtain ⟨hc19, h⟩ := chk_some h
          obtain ⟨hc20, h⟩ := chk_some h
          refine rgs [] [] (⟨(Q66 a_p1 a_g l9), [(2, .row 26 (Q44 a_g)), (5, .arr 1 49 64 (Q45 a_p1)), (6, .arr 1 50 64 (fun i_ => AV.eraseAll Q51 ((putF (fun i => eI64 (l9.getD i (0 : Int))) ((Q42 a_p1)).toNat 0 [(.int .i64 (w64 ((l9.getD ((Q42 a_p1)).toNat (0 : Int)) + (1 : Int))))]) i_))), (25, .arr 1 3 ([a_p1].length) (Q47 a_p1)), (36007, .arr 1 3 Q77 Q46)], []⟩ : St) [(InB (Q42 a_p1) 64), (64 = 64), (InB (Q42 a_p1) 64), (64 = 64)] hn mix (no_hand hΓ) (by kernel_rfl) ⟨hc19, rfl, hc20, rfl, trivial⟩ ?_
          refine awp_le (le_of (st' := (⟨(Q66 a_p1 a_g l9), [(2, .row 26 (Q44 a_g)), (5, .arr 1 49 64 (Q45 a_p1)), (6, .arr 1 50 64 (Q57 l9 a_p1)), (25, .arr 1 3 ([a_p1].length) (Q47 a_p1)), (36007, .arr 1 3 Q77 Q46)], []⟩ : St)) (TmpsLe.refl _) (.same (.same (.arr (leL_of_eq rfl (fun k_ hk_ => (congrArg (AV.eraseAll Q51) ((putF_setN (fun _ _ => rfl) (inB_lit hc20) rfl) k_ hk_)).trans rfl)) (.same (.same .nil)))))) ?_
          obtain ⟨hc21, h⟩ := chk_some h
          refine rgs [] [] (⟨[(2, (.ptr 2 0)), (5, (.vpt 5 64 0 0)), (6, (.vpt 6 64 0 0)), (7, Q79), (8, (.vsl 25 [a_p1].length)), (9, (.int .i64 (Q42 a_p1))), (10, (.int .i64 (Q54 a_g a_p1 l9))), (60, (.bool (!((setN 64 false (List.replicate 64 false) (a_p1).toNat true).getD ((Q54 a_g a_p1 l9)).toNat false))))], [(2, .row 26 (Q44 a_g)), (5, .arr 1 49 64 (Q45 a_p1)), (6, .arr 1 50 64 (Q57 l9 a_p1)), (25, .arr 1 3 ([a_p1].length) (Q47 a_p1)), (36007, .arr 1 3 Q77 Q46)], []⟩ : St) [(InB (Q54 a_g a_p1 l9) 64), (64 = 64)] hn mix (no_hand hΓ) (by kernel_rfl) ⟨hc21, rfl, trivial⟩ ?_
          refine awp_cond (!((setN 64 false (List.replicate 64 false) (a_p1).toNat true).getD ((Q54 a_g a_p1 l9)).toNat false)) (by kernel_rfl) (fun hb => ?_) (fun hb => ?_)
          · replace h := cond_t hb h
            clear hb
            obtain ⟨hc22, h⟩ := chk_some h
            refine rgs [] [] (⟨[(2, (.ptr 2 0)), (5, (.vpt 5 64 0 0)), (6, (.vpt 6 64 0 0)), (7, Q79), (8, (.vsl 25 [a_p1].length)), (10, (.int .i64 (Q54 a_g a_p1 l9)))], [(2, .row 26 (Q44 a_g)), (5, .arr 1 49 64 (fun i_ => AV.eraseAll Q51 ((putF (Q45 a_p1) ((Q54 a_g a_p1 l9)).toNat 0 [(.bool true)]) i_))), (6, .arr 1 50 64 (Q57 l9 a_p1)), (25, .arr 1 3 ([a_p1].length) (Q47 a_p1)), (36007, .arr 1 3 Q77 Q46)], []⟩ : St) [(InB (Q54 a_g a_p1 l9) 64), (64 = 64)] hn mix (no_hand hΓ) (by kernel_rfl) ⟨hc22, rfl, trivial⟩ ?_
            refine awp_le (le_of (st' := (⟨[(2, (.ptr 2 0)), (5, (.vpt 5 64 0 0)), (6, (.vpt 6 64 0 0)), (7, Q79), (8, (.vsl 25 [a_p1].length)), (10, (.int .i64 (Q54 a_g a_p1 l9)))], [(2, .row 26 (Q44 a_g)), (5, .arr 1 49 64 (Q67 a_p1 a_g l9)), (6, .arr 1 50 64 (Q57 l9 a_p1)), (25, .arr 1 3 ([a_p1].length) (Q47 a_p1)), (36007, .arr 1 3 Q77 Q46)], []⟩ : St)) (TmpsLe.refl _) (.same (.arr (leL_of_eq rfl (fun k_ hk_ => (congrArg (AV.eraseAll Q51) ((putF_setN (fun _ _ => rfl) (inB_lit hc22) rfl) k_ hk_)).trans rfl)) (.same (.same (.same .nil)))))) ?_
            obtain ⟨hc23, h⟩ := chk_some h
            refine rgs [] [(65, (AV.list 1 eI64 (0 : Int) (Q69 a_g a_p1 l9) .exact))] (⟨[(2, (.ptr 2 0)), (5, (.vpt 5 64 0 0)), (6, (.vpt 6 64 0 0)), (7, Q79), (8, (.vsl 25 ([a_p1].length + (Q69 a_g a_p1 l9).length)))], [(2, .row 26 (Q44 a_g)), (5, .arr 1 49 64 (Q67 a_p1 a_g l9)), (6, .arr 1 50 64 (Q57 l9 a_p1)), (25, .arr 1 3 ([a_p1].length + (Q69 a_g a_p1 l9).length) (fun i_ => AV.eraseAll Q51 ((appF ([a_p1].length) (Q47 a_p1) (fun i => eI64 ((Q69 a_g a_p1 l9).getD i (0 : Int)))) i_))), (36007, .arr 1 3 Q77 Q46)], []⟩ : St) [(AVle (.slice 1 1 (fun i => ([[(.int .i64 (Q54 a_g a_p1 l9))]] : List (List AV)).getD i []) .exact) (AV.list 1 eI64 (0 : Int) (Q69 a_g a_p1 l9) .exact)), ([a_p1].length = [a_p1].length), ([a_p1].length + (Q69 a_g a_p1 l9).length ≤ room)] hn mix (no_hand hΓ) (by kernel_rfl) ⟨(av_lit rfl (fun i hi => map_get (e := eI64) (d := (0 : Int)) (Q69 a_g a_p1 l9) i hi)), rfl, hc23, trivial⟩ ?_
            refine awp_le (Le.trans (le_of (st' := (⟨[(2, (.ptr 2 0)), (5, (.vpt 5 64 0 0)), (6, (.vpt 6 64 0 0)), (7, Q79), (8, (.vsl 25 ([a_p1].length + (Q69 a_g a_p1 l9).length)))], [(2, .row 26 (Q44 a_g)), (5, .arr 1 49 64 (Q67 a_p1 a_g l9)), (6, .arr 1 50 64 (Q57 l9 a_p1)), (25, .arr 1 3 ([a_p1].length + (Q69 a_g a_p1 l9).length) (fun i => eI64 (([a_p1] ++ (Q69 a_g a_p1 l9)).getD i (0 : Int)))), (36007, .arr 1 3 Q77 Q46)], []⟩ : St)) (TmpsLe.refl _) (.same (.same (.same (.arr (leL_of_eq (len_app _ _) (fun k_ hk_ => (congrArg (AV.eraseAll Q51) ((appF_app (fun _ _ => rfl) (fun _ _ => rfl)) k_ hk_)).trans rfl)) (.same .nil)))))) (le_eq (congrArg (fun k_ : Nat => (⟨[(2, (.ptr 2 0)), (5, (.vpt 5 64 0 0)), (6, (.vpt 6 64 0 0)), (7, Q79), (8, (.vsl 25 k_))], [(2, .row 26 (Q44 a_g)), (5, .arr 1 49 64 (Q67 a_p1 a_g l9)), (6, .arr 1 50 64 (Q57 l9 a_p1)), (25, .arr 1 3 k_ (fun i => eI64 (([a_p1] ++ (Q69 a_g a_p1 l9)).getD i (0 : Int)))), (36007, .arr 1 3 Q77 Q46)], []⟩ : St)) (show ([a_p1].length + (Q69 a_g a_p1 l9).length) = ([a_p1] ++ (Q69 a_g a_p1 l9)).length from (len_app _ _))))) ?_
            refine awp_goto ?_
            refine block_goto ?_
            obtain rfl := Option.some.inj h
            exact ⟨(by intro hh; cases hh), rfl, Le.refl _ _⟩
          · replace h := cond_f hb h
            clear hb
            refine awp_skip ?_
            refine block_normal ?_
            obtain rfl := Option.some.inj h
            exact ⟨rfl, le_restrict_eq [2, 5, 6, 7, 8, 9] [2, 5, 6, 25, 36007] (by kernel_rfl) (no_hand hΓ)⟩
        · replace h := cond_f hb h
          clear hb
          refine awp_exit ?_
          refine then_exit ?_
          obtain rfl := Option.some.inj h
          exact ⟨(by intro hh; cases hh), rfl, le_restrict_eq [2, 5, 6, 7, 8, 9] [2, 5, 6, 25, 36007] (by kernel_rfl) (no_hand hΓ)⟩
      · clear hx24
        rcases x24 with l10 | ⟨l11, l12, l13⟩
        · rintro e st' ⟨rfl, hl25⟩
          refine block_here ?_
          refine then_normal ?_
          refine awp_le hl25 ?_
          obtain ⟨hc26, h⟩ := chk_some h
          refine rgs [] [(69, (AV.list 1 eI64 (0 : Int) ([(Q42 a_p1)] : List (Int)) .exact))] (⟨(Q88 a_p1), [(2, .row 26 (Q44 a_g)), (5, .arr 1 49 64 (Q45 a_p1)), (6, .arr 1 50 64 (Q74 l10)), (25, .arr 1 3 ([a_p1].length) (Q47 a_p1)), (36007, .arr 1 3 (Q76 a_p1) (fun i_ => AV.eraseAll Q51 ((appF Q77 Q46 (fun i => eI64 (([(Q42 a_p1)] : List (Int)).getD i (0 : Int)))) i_)))], []⟩ : St) [(AVle (.slice 1 1 (fun i => ([[(.int .i64 (Q42 a_p1))]] : List (List AV)).getD i []) .exact) (AV.list 1 eI64 (0 : Int) ([(Q42 a_p1)] : List (Int)) .exact)), (([] : List Int).length = ([] : List Int).length), (([] : List Int).length + ([(Q42 a_p1)] : List (Int)).length ≤ room)] hn mix (no_hand hΓ) (by kernel_rfl) ⟨(av_lit rfl (fun i hi => map_get (e := eI64) (d := (0 : Int)) ([(Q42 a_p1)] : List (Int)) i hi)), rfl, hc26, trivial⟩ ?_
          refine awp_le (Le.trans (le_of (st' := (⟨(Q88 a_p1), [(2, .row 26 (Q44 a_g)), (5, .arr 1 49 64 (Q45 a_p1)), (6, .arr 1 50 64 (Q74 l10)), (25, .arr 1 3 ([a_p1].length) (Q47 a_p1)), (36007, .arr 1 3 (Q76 a_p1) (Q72 a_p1))], []⟩ : St)) (TmpsLe.refl _) (.same (.same (.same (.same (.arr (leL_of_eq (len_app _ _) (fun k_ hk_ => (congrArg (AV.eraseAll Q51) ((appF_app (fun _ _ => rfl) (fun _ _ => rfl)) k_ hk_)).trans rfl)) .nil)))))) (le_eq (congrArg (fun k_ : Nat => (⟨[(2, (.ptr 2 0)), (5, (.vpt 5 64 0 0)), (6, (.vpt 6 64 0 0)), (7, (.vsl 36007 k_)), (8, (.vsl 25 [a_p1].length))], [(2, .row 26 (Q44 a_g)), (5, .arr 1 49 64 (Q45 a_p1)), (6, .arr 1 50 64 (Q74 l10)), (25, .arr 1 3 ([a_p1].length) (Q47 a_p1)), (36007, .arr 1 3 k_ (Q72 a_p1))], []⟩ : St)) (show (Q76 a_p1) = (Q56 a_p1).length from (len_app _ _))))) ?_
          obtain ⟨hc27, h⟩ := chk_some h
          refine rgs [] [] (⟨[(2, (.ptr 2 0)), (5, (.vpt 5 64 0 0)), (6, (.vpt 6 64 0 0)), (7, (.vsl 36007 (Q56 a_p1).length)), (8, (.vsub 25 [a_p1].length 0 (0 + ((Q61 a_p1)).toNat)))], [(2, .row 26 (Q44 a_g)), (5, .arr 1 49 64 (Q45 a_p1)), (6, .arr 1 50 64 (Q74 l10)), (25, .arr 1 3 ([a_p1].length) (Q47 a_p1)), (36007, .arr 1 3 ((Q56 a_p1).length) (Q72 a_p1))], []⟩ : St) [(0 ≤ (Q61 a_p1) ∧ 0 + ((Q61 a_p1)).toNat ≤ [a_p1].length)] hn mix (no_hand hΓ) (by kernel_rfl) ⟨hc27, trivial⟩ ?_
          refine awp_le (Le.trans (Le.trans (le_trunc (t := 8) (r := 25) (k := (0 + ((Q61 a_p1)).toNat)) rfl rfl hc27.2 (by kernel_rfl) (.row (by kernel_rfl) (.arr (fun _ => by kernel_rfl) (.arr (fun _ => by kernel_rfl) (.arr (fun _ => by kernel_rfl) (.arr (fun _ => by kernel_rfl) .nil))))) (by rw [hΓ]; rfl)) (le_eq (st' := (⟨(Q86 a_p1), [(2, .row 26 (Q44 a_g)), (5, .arr 1 49 64 (Q45 a_p1)), (6, .arr 1 50 64 (Q74 l10)), (25, .arr 1 3 (0 + ((Q61 a_p1)).toNat) (Q47 a_p1)), (36007, .arr 1 3 ((Q56 a_p1).length) (Q72 a_p1))], []⟩ : St)) (by kernel_rfl))) (Le.trans (le_of (st' := (⟨(Q86 a_p1), [(2, .row 26 (Q44 a_g)), (5, .arr 1 49 64 (Q45 a_p1)), (6, .arr 1 50 64 (Q74 l10)), (25, .arr 1 3 (0 + ((Q61 a_p1)).toNat) (fun i => eI64 ((Q84 a_p1).getD i (0 : Int)))), (36007, .arr 1 3 ((Q56 a_p1).length) (Q72 a_p1))], []⟩ : St)) (TmpsLe.refl _) (.same (.same (.same (.arr (take_le (e := eI64) (d := (0 : Int))) (.same .nil)))))) (le_eq (congrArg (fun k_ : Nat => (⟨[(2, (.ptr 2 0)), (5, (.vpt 5 64 0 0)), (6, (.vpt 6 64 0 0)), (7, (.vsl 36007 (Q56 a_p1).length)), (8, (.vsl 25 k_))], [(2, .row 26 (Q44 a_g)), (5, .arr 1 49 64 (Q45 a_p1)), (6, .arr 1 50 64 (Q74 l10)), (25, .arr 1 3 k_ (fun i => eI64 ((Q84 a_p1).getD i (0 : Int)))), (36007, .arr 1 3 ((Q56 a_p1).length) (Q72 a_p1))], []⟩ : St)) (show (0 + ((Q61 a_p1)).toNat) = (Q84 a_p1).length from take_len hc27.2))))) ?_
          refine awp_seq ?_
          refine rgs0 (⟨[(2, (.ptr 2 0)), (5, (.vpt 5 64 0 0)), (6, (.vpt 6 64 0 0)), (7, (.vsl 36007 (Q56 a_p1).length)), (8, (.vsl 25 (Q84 a_p1).length)), (78, (.bool (decide (((0 : Int) : Int) < ((Q84 a_p1).length : Int)))))], [(2, .row 26 (Q44 a_g)), (5, .arr 1 49 64 (Q45 a_p1)), (6, .arr 1 50 64 (Q74 l10)), (25, .arr 1 3 ((Q84 a_p1).length) (fun i => eI64 ((Q84 a_p1).getD i (0 : Int)))), (36007, .arr 1 3 ((Q56 a_p1).length) (Q72 a_p1))], []⟩ : St) hn mix (no_hand hΓ) (by kernel_rfl) ?_
          refine awp_cond (decide (((0 : Int) : Int) < ((Q84 a_p1).length : Int))) (by kernel_rfl) (fun hb => ?_) (fun hb => ?_)
          · replace h := cond_t hb h
            clear hb
            refine awp_goto ?_
            refine then_goto ?_
            obtain rfl := Option.some.inj h
            exact ⟨rfl, rfl, le_restrict_eq [2, 5, 6, 7, 8] [2, 5, 6, 25, 36007] (by kernel_rfl) (no_hand hΓ)⟩
          · replace h := cond_f hb h
            clear hb
            refine awp_skip ?_
            refine then_normal ?_
            obtain ⟨x28, hx28, h⟩ := bind_some h
            obtain ⟨hc29, h⟩ := chk_some h
            refine rgs [⟨[(36007, 34000)], [], (.tuple []), [(34000, .arr 1 3 x28.length (Q81 x28))]⟩] [] (⟨[(7, (.vsl 36007 (Q56 a_p1).length))], [(36007, .arr 1 3 x28.length (Q81 x28))], []⟩ : St) [(Spec Try.prog 36 [(.vsl 34000 (Q56 a_p1).length)] [(34000, .arr 1 3 ((Q56 a_p1).length) (Q72 a_p1))] (.tuple []) [(34000, .arr 1 3 x28.length (Q81 x28))])] hn mix (no_hand hΓ) (by kernel_rfl) ⟨(ok_slices_Reverse_int_int (Q56 a_p1) x28 hx28), trivial⟩ ?_
            refine awp_le (le_eq (congrArg (fun k_ : Nat => (⟨[(7, (.vsl 36007 k_))], [(36007, .arr 1 3 x28.length (Q81 x28))], []⟩ : St)) (show (Q56 a_p1).length = x28.length from hc29))) ?_
            refine rgs0 (⟨[(4, (.vsl 36007 x28.length))], [(36007, .arr 1 3 x28.length (Q81 x28))], []⟩ : St) hn mix (no_hand hΓ) (by kernel_rfl) ?_
            refine awp_le (Le.trans (le_freeze (nm := 36007) (sz := 1) (n := x28.length) (e := 3) (f := (Q81 x28)) (g := (Q81 x28)) rfl ⟨rfl, trivial⟩ (fun _ _ => rfl) (by rw [hΓ]; rfl)) (le_eq (st' := (⟨[(4, (AV.list 1 eI64 (0 : Int) x28 (.own 36007)))], [(36007, .tok 1 3 x28.length)], []⟩ : St)) (by kernel_rfl))) ?_
            refine awp_ret ?_
            obtain rfl := Option.some.inj h
            exact ⟨(by intro l hh; cases hh), rfl, ⟨.inl rfl, [(36007, 20000)], by kernel_rfl⟩⟩
        · rintro e st' ⟨rfl, hl30⟩
          refine block_goto ?_
          refine then_goto ?_
          obtain rfl := Option.some.inj h
          exact ⟨rfl, rfl, Le.trans hl30 (Le.refl _ _)⟩
  · clear h hx54
    rintro ⟨l1, l2, l3, l4⟩ y rest hf h
    obtain rfl := Option.some.inj hf
    clear hf
    unfold m_graph_Order_F3 at h
    refine awp_seq ?_
    refine awp_skip ?_
    refine then_normal ?_
    obtain ⟨hc31, h⟩ := chk_some h
    refine rgs [] [] (⟨(Q65 l4 l3), [(2, .row 26 (Q44 a_g)), (5, .arr 1 49 64 (Q53 l1)), (6, .arr 1 50 64 (fun i => eI64 (l2.getD i (0 : Int)))), (25, .arr 1 3 l3.length (Q50 l3)), (36007, .arr 1 3 l4.length (Q52 l4))], []⟩ : St) [(InB (Q63 l3) l3.length), (l3.length = l3.length)] hn mix (no_hand hΓ) (by kernel_rfl) ⟨hc31, rfl, trivial⟩ ?_
    refine awp_seq ?_
    refine awp_block ?_
    refine awp_le (st' := (fun (l32 : List (Int)) => (⟨(Q65 l4 l3), (Q62 a_g l1 l32 l3 l4), []⟩ : St)) l2) (Le.refl _ _) ?_
    obtain ⟨x47, hx47, h⟩ := bind_some h
    refine awp_loop (fun (l32 : List (Int)) => (⟨(Q65 l4 l3), (Q62 a_g l1 l32 l3 l4), []⟩ : St)) _ (fun (x_ : (List (Int) ⊕ (List (Bool) × List (Int) × List (Int)))) (e : Exit) (st : St) => match x_ with | (.inl l33) => e = (.exit 0) ∧ Le Γ st (⟨(Q65 l4 l3), [(2, .row 26 (Q44 a_g)), (5, .arr 1 49 64 (Q53 l1)), (6, .arr 1 50 64 (Q75 l33)), (25, .arr 1 3 l3.length (Q50 l3)), (36007, .arr 1 3 l4.length (Q52 l4))], []⟩ : St) | (.inr (l34, l35, l36)) => e = (.goto 0) ∧ Le Γ st (⟨[(2, (.ptr 2 0)), (5, (.vpt 5 64 0 0)), (6, (.vpt 6 64 0 0)), (7, (Q89 l4)), (8, (.vsl 25 l36.length))], [(2, .row 26 (Q44 a_g)), (5, .arr 1 49 64 (fun i => eB (l34.getD i false))), (6, .arr 1 50 64 (fun i => eI64 (l35.getD i (0 : Int)))), (25, .arr 1 3 l36.length (fun i => eI64 (l36.getD i (0 : Int)))), (36007, .arr 1 3 l4.length (Q52 l4))], []⟩ : St)) ?_ hx47 ?_
    · intro l32 y h
      unfold m_graph_Order_L2 at h
      refine awp_seq ?_
      obtain ⟨hc37, h⟩ := chk_some h
      obtain ⟨hc38, h⟩ := chk_some h
      refine rgs [] [] (⟨[(2, (.ptr 2 0)), (5, (.vpt 5 64 0 0)), (6, (.vpt 6 64 0 0)), (7, (Q89 l4)), (8, (.vsl 25 l3.length)), (9, (.int .i64 (Q43 l3))), (41, (.bool (decide (((l32.getD ((Q43 l3)).toNat (0 : Int)) : Int) < ((a_g.Succ.getD ((Q43 l3)).toNat []).length : Int)))))], (Q62 a_g l1 l32 l3 l4), []⟩ : St) [(InB (Q43 l3) 64), (64 = 64), (InB (Q43 l3) a_g.Succ.length)] hn mix (no_hand hΓ) (by kernel_rfl) ⟨hc37, rfl, hc38, trivial⟩ ?_
      refine awp_cond (decide (((l32.getD ((Q43 l3)).toNat (0 : Int)) : Int) < ((a_g.Succ.getD ((Q43 l3)).toNat []).length : Int))) (by kernel_rfl) (fun hb => ?_) (fun hb => ?_)
      · replace h := cond_t hb h
        clear hb
        refine awp_skip ?_
        refine then_normal ?_
        refine awp_block ?_
        obtain ⟨hc39, h⟩ := chk_some h
        obtain ⟨hc40, h⟩ := chk_some h
        obtain ⟨hc41, h⟩ := chk_some h
        refine rgs [] [] (⟨(Q68 l4 l3 a_g l32), (Q62 a_g l1 l32 l3 l4), []⟩ : St) [(InB (Q43 l3) a_g.Succ.length), (InB (Q43 l3) 64), (64 = 64), (InB (l32.getD ((Q43 l3)).toNat (0 : Int)) (a_g.Succ.getD ((Q43 l3)).toNat []).length)] hn mix (no_hand hΓ) (by kernel_rfl) ⟨hc39, hc40, rfl, hc41, trivial⟩ ?_
        obtain ⟨hc42, h⟩ := chk_some h
        obtain ⟨hc43, h⟩ := chk_some h
        refine rgs [] [] (⟨(Q68 l4 l3 a_g l32), [(2, .row 26 (Q44 a_g)), (5, .arr 1 49 64 (Q53 l1)), (6, .arr 1 50 64 (fun i_ => AV.eraseAll Q51 ((putF (fun i => eI64 (l32.getD i (0 : Int))) ((Q43 l3)).toNat 0 [(.int .i64 (w64 ((l32.getD ((Q43 l3)).toNat (0 : Int)) + (1 : Int))))]) i_))), (25, .arr 1 3 l3.length (Q50 l3)), (36007, .arr 1 3 l4.length (Q52 l4))], []⟩ : St) [(InB (Q43 l3) 64), (64 = 64), (InB (Q43 l3) 64), (64 = 64)] hn mix (no_hand hΓ) (by kernel_rfl) ⟨hc42, rfl, hc43, rfl, trivial⟩ ?_
        refine awp_le (le_of (st' := (⟨(Q68 l4 l3 a_g l32), [(2, .row 26 (Q44 a_g)), (5, .arr 1 49 64 (Q53 l1)), (6, .arr 1 50 64 (Q58 l32 l3)), (25, .arr 1 3 l3.length (Q50 l3)), (36007, .arr 1 3 l4.length (Q52 l4))], []⟩ : St)) (TmpsLe.refl _) (.same (.same (.arr (leL_of_eq rfl (fun k_ hk_ => (congrArg (AV.eraseAll Q51) ((putF_setN (fun _ _ => rfl) (inB_lit hc43) rfl) k_ hk_)).trans rfl)) (.same (.same .nil)))))) ?_
        obtain ⟨hc44, h⟩ := chk_some h
        refine rgs [] [] (⟨[(2, (.ptr 2 0)), (5, (.vpt 5 64 0 0)), (6, (.vpt 6 64 0 0)), (7, (Q89 l4)), (8, (.vsl 25 l3.length)), (9, (.int .i64 (Q43 l3))), (10, (.int .i64 (Q55 a_g l3 l32))), (60, (.bool (!(l1.getD ((Q55 a_g l3 l32)).toNat false))))], [(2, .row 26 (Q44 a_g)), (5, .arr 1 49 64 (Q53 l1)), (6, .arr 1 50 64 (Q58 l32 l3)), (25, .arr 1 3 l3.length (Q50 l3)), (36007, .arr 1 3 l4.length (Q52 l4))], []⟩ : St) [(InB (Q55 a_g l3 l32) 64), (64 = 64)] hn mix (no_hand hΓ) (by kernel_rfl) ⟨hc44, rfl, trivial⟩ ?_
        refine awp_cond (!(l1.getD ((Q55 a_g l3 l32)).toNat false)) (by kernel_rfl) (fun hb => ?_) (fun hb => ?_)
        · replace h := cond_t hb h
          clear hb
          obtain ⟨hc45, h⟩ := chk_some h
          refine rgs [] [] (⟨[(2, (.ptr 2 0)), (5, (.vpt 5 64 0 0)), (6, (.vpt 6 64 0 0)), (7, (Q89 l4)), (8, (.vsl 25 l3.length)), (10, (.int .i64 (Q55 a_g l3 l32)))], [(2, .row 26 (Q44 a_g)), (5, .arr 1 49 64 (fun i_ => AV.eraseAll Q51 ((putF (Q53 l1) ((Q55 a_g l3 l32)).toNat 0 [(.bool true)]) i_))), (6, .arr 1 50 64 (Q58 l32 l3)), (25, .arr 1 3 l3.length (Q50 l3)), (36007, .arr 1 3 l4.length (Q52 l4))], []⟩ : St) [(InB (Q55 a_g l3 l32) 64), (64 = 64)] hn mix (no_hand hΓ) (by kernel_rfl) ⟨hc45, rfl, trivial⟩ ?_
          refine awp_le (le_of (st' := (⟨[(2, (.ptr 2 0)), (5, (.vpt 5 64 0 0)), (6, (.vpt 6 64 0 0)), (7, (Q89 l4)), (8, (.vsl 25 l3.length)), (10, (.int .i64 (Q55 a_g l3 l32)))], [(2, .row 26 (Q44 a_g)), (5, .arr 1 49 64 (Q78 l1 a_g l3 l32)), (6, .arr 1 50 64 (Q58 l32 l3)), (25, .arr 1 3 l3.length (Q50 l3)), (36007, .arr 1 3 l4.length (Q52 l4))], []⟩ : St)) (TmpsLe.refl _) (.same (.arr (leL_of_eq rfl (fun k_ hk_ => (congrArg (AV.eraseAll Q51) ((putF_setN (fun _ _ => rfl) (inB_lit hc45) rfl) k_ hk_)).trans rfl)) (.same (.same (.same .nil)))))) ?_
          obtain ⟨hc46, h⟩ := chk_some h
          refine rgs [] [(65, (AV.list 1 eI64 (0 : Int) (Q70 a_g l3 l32) .exact))] (⟨[(2, (.ptr 2 0)), (5, (.vpt 5 64 0 0)), (6, (.vpt 6 64 0 0)), (7, (Q89 l4)), (8, (.vsl 25 (l3.length + (Q70 a_g l3 l32).length)))], [(2, .row 26 (Q44 a_g)), (5, .arr 1 49 64 (Q78 l1 a_g l3 l32)), (6, .arr 1 50 64 (Q58 l32 l3)), (25, .arr 1 3 (l3.length + (Q70 a_g l3 l32).length) (fun i_ => AV.eraseAll Q51 ((appF l3.length (Q50 l3) (fun i => eI64 ((Q70 a_g l3 l32).getD i (0 : Int)))) i_))), (36007, .arr 1 3 l4.length (Q52 l4))], []⟩ : St) [(AVle (.slice 1 1 (fun i => ([[(.int .i64 (Q55 a_g l3 l32))]] : List (List AV)).getD i []) .exact) (AV.list 1 eI64 (0 : Int) (Q70 a_g l3 l32) .exact)), (l3.length = l3.length), (l3.length + (Q70 a_g l3 l32).length ≤ room)] hn mix (no_hand hΓ) (by kernel_rfl) ⟨(av_lit rfl (fun i hi => map_get (e := eI64) (d := (0 : Int)) (Q70 a_g l3 l32) i hi)), rfl, hc46, trivial⟩ ?_
          refine awp_le (Le.trans (le_of (st' := (⟨[(2, (.ptr 2 0)), (5, (.vpt 5 64 0 0)), (6, (.vpt 6 64 0 0)), (7, (Q89 l4)), (8, (.vsl 25 (l3.length + (Q70 a_g l3 l32).length)))], [(2, .row 26 (Q44 a_g)), (5, .arr 1 49 64 (Q78 l1 a_g l3 l32)), (6, .arr 1 50 64 (Q58 l32 l3)), (25, .arr 1 3 (l3.length + (Q70 a_g l3 l32).length) (fun i => eI64 ((l3 ++ (Q70 a_g l3 l32)).getD i (0 : Int)))), (36007, .arr 1 3 l4.length (Q52 l4))], []⟩ : St)) (TmpsLe.refl _) (.same (.same (.same (.arr (leL_of_eq (len_app _ _) (fun k_ hk_ => (congrArg (AV.eraseAll Q51) ((appF_app (fun _ _ => rfl) (fun _ _ => rfl)) k_ hk_)).trans rfl)) (.same .nil)))))) (le_eq (congrArg (fun k_ : Nat => (⟨[(2, (.ptr 2 0)), (5, (.vpt 5 64 0 0)), (6, (.vpt 6 64 0 0)), (7, (Q89 l4)), (8, (.vsl 25 k_))], [(2, .row 26 (Q44 a_g)), (5, .arr 1 49 64 (Q78 l1 a_g l3 l32)), (6, .arr 1 50 64 (Q58 l32 l3)), (25, .arr 1 3 k_ (fun i => eI64 ((l3 ++ (Q70 a_g l3 l32)).getD i (0 : Int)))), (36007, .arr 1 3 l4.length (Q52 l4))], []⟩ : St)) (show (l3.length + (Q70 a_g l3 l32).length) = (l3 ++ (Q70 a_g l3 l32)).length from (len_app _ _))))) ?_
          refine awp_goto ?_
          refine block_goto ?_
          obtain rfl := Option.some.inj h
          exact ⟨(by intro hh; cases hh), rfl, Le.refl _ _⟩
        · replace h := cond_f hb h
          clear hb
          refine awp_skip ?_
          refine block_normal ?_
          obtain rfl := Option.some.inj h
          exact ⟨rfl, le_restrict_eq [2, 5, 6, 7, 8, 9] [2, 5, 6, 25, 36007] (by kernel_rfl) (no_hand hΓ)⟩
      · replace h := cond_f hb h
        clear hb
        refine awp_exit ?_
        refine then_exit ?_
        obtain rfl := Option.some.inj h
        exact ⟨(by intro hh; cases hh), rfl, le_restrict_eq [2, 5, 6, 7, 8, 9] [2, 5, 6, 25, 36007] (by kernel_rfl) (no_hand hΓ)⟩
    · clear hx47
      rcases x47 with l33 | ⟨l34, l35, l36⟩
      · rintro e st' ⟨rfl, hl48⟩
        refine block_here ?_
        refine then_normal ?_
        refine awp_le hl48 ?_
        obtain ⟨hc49, h⟩ := chk_some h
        refine rgs [] [(69, (AV.list 1 eI64 (0 : Int) (Q85 l3) .exact))] (⟨[(2, (.ptr 2 0)), (5, (.vpt 5 64 0 0)), (6, (.vpt 6 64 0 0)), (7, (.vsl 36007 (l4.length + (Q85 l3).length))), (8, (.vsl 25 l3.length))], [(2, .row 26 (Q44 a_g)), (5, .arr 1 49 64 (Q53 l1)), (6, .arr 1 50 64 (Q75 l33)), (25, .arr 1 3 l3.length (Q50 l3)), (36007, .arr 1 3 (l4.length + (Q85 l3).length) (fun i_ => AV.eraseAll Q51 ((appF l4.length (Q52 l4) (fun i => eI64 ((Q85 l3).getD i (0 : Int)))) i_)))], []⟩ : St) [(AVle (.slice 1 1 (fun i => ([[(.int .i64 (Q43 l3))]] : List (List AV)).getD i []) .exact) (AV.list 1 eI64 (0 : Int) (Q85 l3) .exact)), (l4.length = l4.length), (l4.length + (Q85 l3).length ≤ room)] hn mix (no_hand hΓ) (by kernel_rfl) ⟨(av_lit rfl (fun i hi => map_get (e := eI64) (d := (0 : Int)) (Q85 l3) i hi)), rfl, hc49, trivial⟩ ?_
        refine awp_le (Le.trans (le_of (st' := (⟨[(2, (.ptr 2 0)), (5, (.vpt 5 64 0 0)), (6, (.vpt 6 64 0 0)), (7, (.vsl 36007 (l4.length + (Q85 l3).length))), (8, (.vsl 25 l3.length))], [(2, .row 26 (Q44 a_g)), (5, .arr 1 49 64 (Q53 l1)), (6, .arr 1 50 64 (Q75 l33)), (25, .arr 1 3 l3.length (Q50 l3)), (36007, .arr 1 3 (l4.length + (Q85 l3).length) (Q71 l4 l3))], []⟩ : St)) (TmpsLe.refl _) (.same (.same (.same (.same (.arr (leL_of_eq (len_app _ _) (fun k_ hk_ => (congrArg (AV.eraseAll Q51) ((appF_app (fun _ _ => rfl) (fun _ _ => rfl)) k_ hk_)).trans rfl)) .nil)))))) (le_eq (congrArg (fun k_ : Nat => (⟨[(2, (.ptr 2 0)), (5, (.vpt 5 64 0 0)), (6, (.vpt 6 64 0 0)), (7, (.vsl 36007 k_)), (8, (.vsl 25 l3.length))], [(2, .row 26 (Q44 a_g)), (5, .arr 1 49 64 (Q53 l1)), (6, .arr 1 50 64 (Q75 l33)), (25, .arr 1 3 l3.length (Q50 l3)), (36007, .arr 1 3 k_ (Q71 l4 l3))], []⟩ : St)) (show (l4.length + (Q85 l3).length) = (Q60 l4 l3).length from (len_app _ _))))) ?_
        obtain ⟨hc50, h⟩ := chk_some h
        refine rgs [] [] (⟨[(2, (.ptr 2 0)), (5, (.vpt 5 64 0 0)), (6, (.vpt 6 64 0 0)), (7, (.vsl 36007 (Q60 l4 l3).length)), (8, (.vsub 25 l3.length 0 (0 + ((Q63 l3)).toNat)))], [(2, .row 26 (Q44 a_g)), (5, .arr 1 49 64 (Q53 l1)), (6, .arr 1 50 64 (Q75 l33)), (25, .arr 1 3 l3.length (Q50 l3)), (36007, .arr 1 3 ((Q60 l4 l3).length) (Q71 l4 l3))], []⟩ : St) [(0 ≤ (Q63 l3) ∧ 0 + ((Q63 l3)).toNat ≤ l3.length)] hn mix (no_hand hΓ) (by kernel_rfl) ⟨hc50, trivial⟩ ?_
        refine awp_le (Le.trans (Le.trans (le_trunc (t := 8) (r := 25) (k := (0 + ((Q63 l3)).toNat)) rfl rfl hc50.2 (by kernel_rfl) (.row (by kernel_rfl) (.arr (fun _ => by kernel_rfl) (.arr (fun _ => by kernel_rfl) (.arr (fun _ => by kernel_rfl) (.arr (fun _ => by kernel_rfl) .nil))))) (by rw [hΓ]; rfl)) (le_eq (st' := (⟨[(2, (.ptr 2 0)), (5, (.vpt 5 64 0 0)), (6, (.vpt 6 64 0 0)), (7, (.vsl 36007 (Q60 l4 l3).length)), (8, (.vsl 25 (0 + ((Q63 l3)).toNat)))], [(2, .row 26 (Q44 a_g)), (5, .arr 1 49 64 (Q53 l1)), (6, .arr 1 50 64 (Q75 l33)), (25, .arr 1 3 (0 + ((Q63 l3)).toNat) (Q50 l3)), (36007, .arr 1 3 ((Q60 l4 l3).length) (Q71 l4 l3))], []⟩ : St)) (by kernel_rfl))) (Le.trans (le_of (st' := (⟨[(2, (.ptr 2 0)), (5, (.vpt 5 64 0 0)), (6, (.vpt 6 64 0 0)), (7, (.vsl 36007 (Q60 l4 l3).length)), (8, (.vsl 25 (0 + ((Q63 l3)).toNat)))], [(2, .row 26 (Q44 a_g)), (5, .arr 1 49 64 (Q53 l1)), (6, .arr 1 50 64 (Q75 l33)), (25, .arr 1 3 (0 + ((Q63 l3)).toNat) (fun i => eI64 ((Q87 l3).getD i (0 : Int)))), (36007, .arr 1 3 ((Q60 l4 l3).length) (Q71 l4 l3))], []⟩ : St)) (TmpsLe.refl _) (.same (.same (.same (.arr (take_le (e := eI64) (d := (0 : Int))) (.same .nil)))))) (le_eq (congrArg (fun k_ : Nat => (⟨[(2, (.ptr 2 0)), (5, (.vpt 5 64 0 0)), (6, (.vpt 6 64 0 0)), (7, (.vsl 36007 (Q60 l4 l3).length)), (8, (.vsl 25 k_))], [(2, .row 26 (Q44 a_g)), (5, .arr 1 49 64 (Q53 l1)), (6, .arr 1 50 64 (Q75 l33)), (25, .arr 1 3 k_ (fun i => eI64 ((Q87 l3).getD i (0 : Int)))), (36007, .arr 1 3 ((Q60 l4 l3).length) (Q71 l4 l3))], []⟩ : St)) (show (0 + ((Q63 l3)).toNat) = (Q87 l3).length from take_len hc50.2))))) ?_
        refine awp_seq ?_
        refine rgs0 (⟨[(2, (.ptr 2 0)), (5, (.vpt 5 64 0 0)), (6, (.vpt 6 64 0 0)), (7, (.vsl 36007 (Q60 l4 l3).length)), (8, (.vsl 25 (Q87 l3).length)), (78, (.bool (decide (((0 : Int) : Int) < ((Q87 l3).length : Int)))))], [(2, .row 26 (Q44 a_g)), (5, .arr 1 49 64 (Q53 l1)), (6, .arr 1 50 64 (Q75 l33)), (25, .arr 1 3 ((Q87 l3).length) (fun i => eI64 ((Q87 l3).getD i (0 : Int)))), (36007, .arr 1 3 ((Q60 l4 l3).length) (Q71 l4 l3))], []⟩ : St) hn mix (no_hand hΓ) (by kernel_rfl) ?_
        refine awp_cond (decide (((0 : Int) : Int) < ((Q87 l3).length : Int))) (by kernel_rfl) (fun hb => ?_) (fun hb => ?_)
        · replace h := cond_t hb h
          clear hb
          refine awp_goto ?_
          refine then_goto ?_
          obtain rfl := Option.some.inj h
          exact ⟨rfl, rfl, le_restrict_eq [2, 5, 6, 7, 8] [2, 5, 6, 25, 36007] (by kernel_rfl) (no_hand hΓ)⟩
        · replace h := cond_f hb h
          clear hb
          refine awp_skip ?_
          refine then_normal ?_
          obtain ⟨x51, hx51, h⟩ := bind_some h
          obtain ⟨hc52, h⟩ := chk_some h
          refine rgs [⟨[(36007, 34000)], [], (.tuple []), [(34000, .arr 1 3 x51.length (Q82 x51))]⟩] [] (⟨[(7, (.vsl 36007 (Q60 l4 l3).length))], [(36007, .arr 1 3 x51.length (Q82 x51))], []⟩ : St) [(Spec Try.prog 36 [(.vsl 34000 (Q60 l4 l3).length)] [(34000, .arr 1 3 ((Q60 l4 l3).length) (Q71 l4 l3))] (.tuple []) [(34000, .arr 1 3 x51.length (Q82 x51))])] hn mix (no_hand hΓ) (by kernel_rfl) ⟨(ok_slices_Reverse_int_int (Q60 l4 l3) x51 hx51), trivial⟩ ?_
          refine awp_le (le_eq (congrArg (fun k_ : Nat => (⟨[(7, (.vsl 36007 k_))], [(36007, .arr 1 3 x51.length (Q82 x51))], []⟩ : St)) (show (Q60 l4 l3).length = x51.length from hc52))) ?_
          refine rgs0 (⟨[(4, (.vsl 36007 x51.length))], [(36007, .arr 1 3 x51.length (Q82 x51))], []⟩ : St) hn mix (no_hand hΓ) (by kernel_rfl) ?_
          refine awp_le (Le.trans (le_freeze (nm := 36007) (sz := 1) (n := x51.length) (e := 3) (f := (Q82 x51)) (g := (Q82 x51)) rfl ⟨rfl, trivial⟩ (fun _ _ => rfl) (by rw [hΓ]; rfl)) (le_eq (st' := (⟨[(4, (AV.list 1 eI64 (0 : Int) x51 (.own 36007)))], [(36007, .tok 1 3 x51.length)], []⟩ : St)) (by kernel_rfl))) ?_
          refine awp_ret ?_
          obtain rfl := Option.some.inj h
          exact ⟨(by intro l hh; cases hh), rfl, ⟨.inl rfl, [(36007, 20000)], by kernel_rfl⟩⟩
      · rintro e st' ⟨rfl, hl53⟩
        refine block_goto ?_
        refine then_goto ?_
        obtain rfl := Option.some.inj h
        exact ⟨rfl, rfl, Le.trans hl53 (Le.refl _ _)⟩
  · clear hx54
    rintro e st' ⟨rfl, hk⟩
    obtain rfl := Option.some.inj h
    exact hk

noncomputable def m_bits_Mul32 (a_x : Int) (a_y : Int) : Option (Int × Int) :=
  (some ((IntKind.wrap .u32 (shrV .u64 (wu64 ((wu64 a_x) * (wu64 a_y))) (32 : Int))), (IntKind.wrap .u32 (wu64 ((wu64 a_x) * (wu64 a_y))))))
theorem ok_bits_Mul32 (a_x : Int) (a_y : Int) (r : (Int × Int)) (h : m_bits_Mul32 a_x a_y = some r) : Spec Try.prog 46 [(.int .u32 a_x), (.int .u32 a_y)] [] (.tuple [(.int .u32 r.1), (.int .u32 r.2)]) [] := by
  refine spec_of_awp (fn := Try.f46) Try.func46 rfl rfl (by kernel_rfl) (fun Γ hn hΓ => ?_)
  have hn : Γ.n = 17 := hn
  unfold m_bits_Mul32 at h
  refine rgs0 (⟨[(0, (.int .u32 a_x)), (1, (.int .u32 a_y))], [], []⟩ : St) hn mix (no_hand hΓ) (by kernel_rfl) ?_
  refine rgs0 (⟨[(6, (.int .u64 (wu64 ((wu64 a_x) * (wu64 a_y)))))], [], []⟩ : St) hn mix (no_hand hΓ) (by kernel_rfl) ?_
  refine rgs [] [] (⟨[(4, (.int .u32 (IntKind.wrap .u32 (shrV .u64 (wu64 ((wu64 a_x) * (wu64 a_y))) (32 : Int))))), (5, (.int .u32 (IntKind.wrap .u32 (wu64 ((wu64 a_x) * (wu64 a_y))))))], [], []⟩ : St) [(0 ≤ (32 : Int))] hn mix (no_hand hΓ) (by kernel_rfl) ⟨(by decide), trivial⟩ ?_
  refine awp_ret ?_
  obtain rfl := Option.some.inj h
  exact ⟨.inl rfl, [], by kernel_rfl⟩

noncomputable def Q93 (a_y : Int) := (shrV .u64 a_y (32 : Int))
noncomputable def Q92 (a_x : Int) : AV := (.int .u64 (shrV .u64 a_x (32 : Int)))
noncomputable def Q91 (a_x : Int) : AV := (.int .u64 (bitsV .and .u64 a_x (4294967295 : Int)))
noncomputable def Q90 (a_x : Int) (a_y : Int) := (wu64 ((wu64 ((shrV .u64 a_x (32 : Int)) * (bitsV .and .u64 a_y (4294967295 : Int)))) + (shrV .u64 (wu64 ((bitsV .and .u64 a_x (4294967295 : Int)) * (bitsV .and .u64 a_y (4294967295 : Int)))) (32 : Int))))
noncomputable def Q94 (a_x : Int) (a_y : Int) : AV := (.int .u64 (wu64 ((wu64 ((wu64 ((shrV .u64 a_x (32 : Int)) * (Q93 a_y))) + (shrV .u64 (Q90 a_x a_y) (32 : Int)))) + (shrV .u64 (wu64 ((bitsV .and .u64 (Q90 a_x a_y) (4294967295 : Int)) + (wu64 ((bitsV .and .u64 a_x (4294967295 : Int)) * (Q93 a_y))))) (32 : Int)))))
noncomputable def m_bits_Mul64 (a_x : Int) (a_y : Int) : Option (Int × Int) :=
  (some ((wu64 ((wu64 ((wu64 ((shrV .u64 a_x (32 : Int)) * (shrV .u64 a_y (32 : Int)))) + (shrV .u64 (wu64 ((wu64 ((shrV .u64 a_x (32 : Int)) * (bitsV .and .u64 a_y (4294967295 : Int)))) + (shrV .u64 (wu64 ((bitsV .and .u64 a_x (4294967295 : Int)) * (bitsV .and .u64 a_y (4294967295 : Int)))) (32 : Int)))) (32 : Int)))) + (shrV .u64 (wu64 ((bitsV .and .u64 (wu64 ((wu64 ((shrV .u64 a_x (32 : Int)) * (bitsV .and .u64 a_y (4294967295 : Int)))) + (shrV .u64 (wu64 ((bitsV .and .u64 a_x (4294967295 : Int)) * (bitsV .and .u64 a_y (4294967295 : Int)))) (32 : Int)))) (4294967295 : Int)) + (wu64 ((bitsV .and .u64 a_x (4294967295 : Int)) * (shrV .u64 a_y (32 : Int)))))) (32 : Int)))), (wu64 (a_x * a_y))))
theorem ok_bits_Mul64 (a_x : Int) (a_y : Int) (r : (Int × Int)) (h : m_bits_Mul64 a_x a_y = some r) : Spec Try.prog 47 [(.int .u64 a_x), (.int .u64 a_y)] [] (.tuple [(.int .u64 r.1), (.int .u64 r.2)]) [] := by
  refine spec_of_awp (fn := Try.f47) Try.func47 rfl rfl (by kernel_rfl) (fun Γ hn hΓ => ?_)
  have hn : Γ.n = 51 := hn
  unfold m_bits_Mul64 at h
  refine rgs0 (⟨[(0, (.int .u64 a_x)), (1, (.int .u64 a_y))], [], []⟩ : St) hn mix (no_hand hΓ) (by kernel_rfl) ?_
  refine rgs0 (⟨[(0, (.int .u64 a_x)), (1, (.int .u64 a_y)), (6, (Q91 a_x))], [], []⟩ : St) hn mix (no_hand hΓ) (by kernel_rfl) ?_
  refine rgs [] [] (⟨[(0, (.int .u64 a_x)), (1, (.int .u64 a_y)), (6, (Q91 a_x)), (7, (Q92 a_x))], [], []⟩ : St) [(0 ≤ (32 : Int))] hn mix (no_hand hΓ) (by kernel_rfl) ⟨(by decide), trivial⟩ ?_
  refine rgs0 (⟨[(0, (.int .u64 a_x)), (1, (.int .u64 a_y)), (6, (Q91 a_x)), (7, (Q92 a_x)), (8, (.int .u64 (bitsV .and .u64 a_y (4294967295 : Int))))], [], []⟩ : St) hn mix (no_hand hΓ) (by kernel_rfl) ?_
  refine rgs [] [] (⟨[(0, (.int .u64 a_x)), (1, (.int .u64 a_y)), (6, (Q91 a_x)), (7, (Q92 a_x)), (8, (.int .u64 (bitsV .and .u64 a_y (4294967295 : Int)))), (9, (.int .u64 (Q93 a_y)))], [], []⟩ : St) [(0 ≤ (32 : Int))] hn mix (no_hand hΓ) (by kernel_rfl) ⟨(by decide), trivial⟩ ?_
  refine rgs0 (⟨[(0, (.int .u64 a_x)), (1, (.int .u64 a_y)), (6, (Q91 a_x)), (7, (Q92 a_x)), (8, (.int .u64 (bitsV .and .u64 a_y (4294967295 : Int)))), (9, (.int .u64 (Q93 a_y))), (10, (.int .u64 (wu64 ((bitsV .and .u64 a_x (4294967295 : Int)) * (bitsV .and .u64 a_y (4294967295 : Int))))))], [], []⟩ : St) hn mix (no_hand hΓ) (by kernel_rfl) ?_
  refine rgs [] [] (⟨[(0, (.int .u64 a_x)), (1, (.int .u64 a_y)), (6, (Q91 a_x)), (7, (Q92 a_x)), (9, (.int .u64 (Q93 a_y))), (11, (.int .u64 (Q90 a_x a_y)))], [], []⟩ : St) [(0 ≤ (32 : Int))] hn mix (no_hand hΓ) (by kernel_rfl) ⟨(by decide), trivial⟩ ?_
  refine rgs0 (⟨[(0, (.int .u64 a_x)), (1, (.int .u64 a_y)), (6, (Q91 a_x)), (7, (Q92 a_x)), (9, (.int .u64 (Q93 a_y))), (11, (.int .u64 (Q90 a_x a_y))), (12, (.int .u64 (bitsV .and .u64 (Q90 a_x a_y) (4294967295 : Int))))], [], []⟩ : St) hn mix (no_hand hΓ) (by kernel_rfl) ?_
  refine rgs [] [] (⟨[(0, (.int .u64 a_x)), (1, (.int .u64 a_y)), (6, (Q91 a_x)), (7, (Q92 a_x)), (9, (.int .u64 (Q93 a_y))), (12, (.int .u64 (bitsV .and .u64 (Q90 a_x a_y) (4294967295 : Int)))), (13, (.int .u64 (shrV .u64 (Q90 a_x a_y) (32 : Int))))], [], []⟩ : St) [(0 ≤ (32 : Int))] hn mix (no_hand hΓ) (by kernel_rfl) ⟨(by decide), trivial⟩ ?_
  refine rgs0 (⟨[(0, (.int .u64 a_x)), (1, (.int .u64 a_y)), (7, (Q92 a_x)), (9, (.int .u64 (Q93 a_y))), (12, (.int .u64 (wu64 ((bitsV .and .u64 (Q90 a_x a_y) (4294967295 : Int)) + (wu64 ((bitsV .and .u64 a_x (4294967295 : Int)) * (Q93 a_y))))))), (13, (.int .u64 (shrV .u64 (Q90 a_x a_y) (32 : Int))))], [], []⟩ : St) hn mix (no_hand hΓ) (by kernel_rfl) ?_
  refine rgs [] [] (⟨[(0, (.int .u64 a_x)), (1, (.int .u64 a_y)), (4, (Q94 a_x a_y))], [], []⟩ : St) [(0 ≤ (32 : Int))] hn mix (no_hand hΓ) (by kernel_rfl) ⟨(by decide), trivial⟩ ?_
  refine rgs0 (⟨[(4, (Q94 a_x a_y)), (5, (.int .u64 (wu64 (a_x * a_y))))], [], []⟩ : St) hn mix (no_hand hΓ) (by kernel_rfl) ?_
  refine awp_ret ?_
  obtain rfl := Option.some.inj h
  exact ⟨.inl rfl, [], by kernel_rfl⟩

noncomputable def m_bits_Mul (a_x : Int) (a_y : Int) : Option (Int × Int) :=
  (bif false then ((m_bits_Mul32 (IntKind.wrap .u32 a_x) (IntKind.wrap .u32 a_y)).bind fun x1 => (some ((wu64 x1.1), (wu64 x1.2)))) else ((m_bits_Mul64 a_x a_y).bind fun x2 => (some (x2.1, x2.2))))
theorem ok_bits_Mul (a_x : Int) (a_y : Int) (r : (Int × Int)) (h : m_bits_Mul a_x a_y = some r) : Spec Try.prog 39 [(.int .u64 a_x), (.int .u64 a_y)] [] (.tuple [(.int .u64 r.1), (.int .u64 r.2)]) [] := by
  refine spec_of_awp (fn := Try.f39) Try.func39 rfl rfl (by kernel_rfl) (fun Γ hn hΓ => ?_)
  have hn : Γ.n = 30 := hn
  unfold m_bits_Mul at h
  refine rgs0 (⟨[(0, (.int .u64 a_x)), (1, (.int .u64 a_y))], [], []⟩ : St) hn mix (no_hand hΓ) (by kernel_rfl) ?_
  refine awp_seq ?_
  refine awp_cond false (by kernel_rfl) (fun hb => ?_) (fun hb => ?_)
  · replace h := cond_t hb h
    clear hb
    obtain ⟨x1, hx1, h⟩ := bind_some h
    refine rgs [⟨[], [], (.tuple [(.int .u32 x1.1), (.int .u32 x1.2)]), []⟩] [] (⟨[(6, (.int .u32 x1.1)), (7, (.int .u32 x1.2))], [], []⟩ : St) [(Spec Try.prog 46 [(.int .u32 (IntKind.wrap .u32 a_x)), (.int .u32 (IntKind.wrap .u32 a_y))] [] (.tuple [(.int .u32 x1.1), (.int .u32 x1.2)]) [])] hn mix (no_hand hΓ) (by kernel_rfl) ⟨(ok_bits_Mul32 (IntKind.wrap .u32 a_x) (IntKind.wrap .u32 a_y) x1 hx1), trivial⟩ ?_
    refine rgs0 (⟨[(4, (.int .u64 (wu64 x1.1))), (5, (.int .u64 (wu64 x1.2)))], [], []⟩ : St) hn mix (no_hand hΓ) (by kernel_rfl) ?_
    refine awp_ret ?_
    refine then_ret ?_
    obtain rfl := Option.some.inj h
    exact ⟨.inl rfl, [], by kernel_rfl⟩
  · replace h := cond_f hb h
    clear hb
    refine awp_skip ?_
    refine then_normal ?_
    obtain ⟨x2, hx2, h⟩ := bind_some h
    refine rgs [⟨[], [], (.tuple [(.int .u64 x2.1), (.int .u64 x2.2)]), []⟩] [] (⟨[(8, (.int .u64 x2.1)), (9, (.int .u64 x2.2))], [], []⟩ : St) [(Spec Try.prog 47 [(.int .u64 a_x), (.int .u64 a_y)] [] (.tuple [(.int .u64 x2.1), (.int .u64 x2.2)]) [])] hn mix (no_hand hΓ) (by kernel_rfl) ⟨(ok_bits_Mul64 a_x a_y x2 hx2), trivial⟩ ?_
    refine rgs0 (⟨[(4, (.int .u64 x2.1)), (5, (.int .u64 x2.2))], [], []⟩ : St) hn mix (no_hand hΓ) (by kernel_rfl) ?_
    refine awp_ret ?_
    obtain rfl := Option.some.inj h
    exact ⟨.inl rfl, [], by kernel_rfl⟩

noncomputable def m_slices_Repeat_int_int_L1  : (Int × List (Int)) → Option (LR (Int × List (Int)) (List (Int))) :=
  fun ((i7, l8) : (Int × List (Int))) => (bif (decide ((i7 : Int) < (l8.length : Int))) then (chk (0 ≤ i7 ∧ 0 + (i7).toNat ≤ l8.length) (chk (0 ≤ i7 ∧ 0 + (i7).toNat ≤ l8.length) (some (.next ((w64 (i7 + ((Nat.min ((0 + (i7).toNat) - 0) (l8.length - (0 + (i7).toNat))) : Int))), (cpL l8 (0 + (i7).toNat) (Nat.min ((0 + (i7).toNat) - 0) (l8.length - (0 + (i7).toNat))) (fun i => l8.getD (0 + i) (0 : Int)))))))) else (some (.done l8)))
noncomputable def Q98 (x3 : (Int × Int)) := (decide (((0 : Int) : Int) < x3.1))
noncomputable def Q97 (a_x : List (Int)) : AV := (AV.list 1 eI64 (0 : Int) a_x .none)
noncomputable def Q95 (x3 : (Int × Int)) := (List.replicate ((w64 x3.2)).toNat (0 : Int))
noncomputable def Q100 (a_x : List (Int)) (x3 : (Int × Int)) := (Nat.min a_x.length ((Q95 x3).length - 0))
noncomputable def Q102 (x3 : (Int × Int)) (a_x : List (Int)) := (cpL (Q95 x3) 0 (Q100 a_x x3) (fun i => a_x.getD i (0 : Int)))
noncomputable def Q96 (i7 : Int) (l8 : List (Int)) := (Nat.min ((0 + (i7).toNat) - 0) (l8.length - (0 + (i7).toNat)))
noncomputable def Q101 (l8 : List (Int)) (i7 : Int) := (cpL l8 (0 + (i7).toNat) (Q96 i7 l8) (fun i => l8.getD (0 + i) (0 : Int)))
noncomputable def Q99 (l8 : List (Int)) (i7 : Int) := (⟨[(7, (.vsl 30 l8.length)), (8, (.int .i64 i7))], [(30, .arr 1 3 l8.length (fun i => eI64 (l8.getD i (0 : Int))))], []⟩ : St)
noncomputable def m_slices_Repeat_int_int (a_x : List (Int)) (a_count : Int) : Option (List (Int)) :=
  (Option.bind (α := Unit) (bif (decide ((a_count : Int) < (0 : Int))) then none else (some (()))) (fun x1 => (match x1 with | _ => ((m_bits_Mul (wu64 (a_x.length : Int)) (wu64 a_count)).bind fun x3 => (Option.bind (α := Unit) (bif (bif (decide (((0 : Int) : Int) < x3.1)) then true else (decide (((9223372036854775807 : Int) : Int) < x3.2))) then none else (some (()))) (fun x4 => (match x4 with | _ => (chk (0 ≤ (w64 x3.2) ∧ (w64 x3.2) ≤ (w64 x3.2) ∧ (w64 x3.2) ≤ (room : Int)) ((loopO (S := (Int × List (Int))) (X := List (Int)) m_slices_Repeat_int_int_L1 (((Nat.min a_x.length ((List.replicate ((w64 x3.2)).toNat (0 : Int)).length - 0)) : Int), (cpL (List.replicate ((w64 x3.2)).toNat (0 : Int)) 0 (Nat.min a_x.length ((List.replicate ((w64 x3.2)).toNat (0 : Int)).length - 0)) (fun i => a_x.getD i (0 : Int))))).bind (fun x12 => ((some x12))))))))))))
theorem ok_slices_Repeat_int_int (a_x : List (Int)) (a_count : Int) (r : List (Int)) (h : m_slices_Repeat_int_int a_x a_count = some r) : Spec Try.prog 27 [(AV.list 1 eI64 (0 : Int) a_x .none), (.int .i64 a_count)] [] (.vsl 20000 r.length) [(20000, .arr 1 3 r.length (fun i => eI64 (r.getD i (0 : Int))))] := by
  refine spec_of_awp (fn := Try.f27) Try.func27 rfl rfl (by kernel_rfl) (fun Γ hn hΓ => ?_)
  have hn : Γ.n = 48 := hn
  unfold m_slices_Repeat_int_int at h
  refine rgs [] [(4, (AV.list 1 eI64 (0 : Int) ([] : List Int) .exact))] (⟨[(0, (Q97 a_x)), (1, (.int .i64 a_count))], [], []⟩ : St) [(AVle (.slice 0 0 (fun _ => []) .exact) (AV.list 1 eI64 (0 : Int) ([] : List Int) .exact))] hn mix (no_hand hΓ) (by kernel_rfl) ⟨av_nil, trivial⟩ ?_
  refine awp_seq ?_
  obtain ⟨x1, hx1, h⟩ := bind_some h
  refine awp_join (fun (_ : Unit) (e : Exit) (st : St) => e = .normal ∧ Le Γ st (⟨[(0, (Q97 a_x)), (1, (.int .i64 a_count))], [], []⟩ : St)) hx1 ?_ ?_
  · clear h hx1
    intro y h
    refine rgs0 (⟨[(0, (Q97 a_x)), (1, (.int .i64 a_count)), (10, (.bool (decide ((a_count : Int) < (0 : Int)))))], [], []⟩ : St) hn mix (no_hand hΓ) (by kernel_rfl) ?_
    refine awp_cond (decide ((a_count : Int) < (0 : Int))) (by kernel_rfl) (fun hb => ?_) (fun hb => ?_)
    · replace h := cond_t hb h
      clear hb
      cases h
    · replace h := cond_f hb h
      clear hb
      refine awp_skip ?_
      obtain rfl := Option.some.inj h
      exact ⟨rfl, le_restrict_eq [0, 1] [] (by kernel_rfl) (no_hand hΓ)⟩
  · clear hx1
    rintro e st' ⟨rfl, hl2⟩
    refine then_normal ?_
    refine awp_le hl2 ?_
    obtain ⟨x3, hx3, h⟩ := bind_some h
    refine rgs [⟨[], [], (.tuple [(.int .u64 x3.1), (.int .u64 x3.2)]), []⟩] [] (⟨[(0, (Q97 a_x)), (5, (.int .u64 x3.1)), (6, (.int .u64 x3.2))], [], []⟩ : St) [(Spec Try.prog 39 [(.int .u64 (wu64 (a_x.length : Int))), (.int .u64 (wu64 a_count))] [] (.tuple [(.int .u64 x3.1), (.int .u64 x3.2)]) [])] hn mix (no_hand hΓ) (by kernel_rfl) ⟨(ok_bits_Mul (wu64 (a_x.length : Int)) (wu64 a_count) x3 hx3), trivial⟩ ?_
    refine awp_seq ?_
    obtain ⟨x4, hx4, h⟩ := bind_some h
    refine awp_join (fun (_ : Unit) (e : Exit) (st : St) => e = .normal ∧ Le Γ st (⟨[(0, (Q97 a_x)), (6, (.int .u64 x3.2))], [], []⟩ : St)) hx4 ?_ ?_
    · clear h hx4
      intro y h
      refine rgs [] [] (⟨[(0, (Q97 a_x)), (6, (.int .u64 x3.2)), (26, (.bool (bif (Q98 x3) then true else (decide (((9223372036854775807 : Int) : Int) < x3.2)))))], [], []⟩ : St) [(((Q98 x3) == false) = true → ((Q98 x3) == false) = true), ((Q98 x3) = false → ((Q98 x3) == false) = true)] hn mix (no_hand hΓ) (by kernel_rfl) ⟨(fun hg => hg), gF, trivial⟩ ?_
      refine awp_cond (bif (Q98 x3) then true else (decide (((9223372036854775807 : Int) : Int) < x3.2))) (by kernel_rfl) (fun hb => ?_) (fun hb => ?_)
      · replace h := cond_t hb h
        clear hb
        cases h
      · replace h := cond_f hb h
        clear hb
        refine awp_skip ?_
        obtain rfl := Option.some.inj h
        exact ⟨rfl, le_restrict_eq [0, 6] [] (by kernel_rfl) (no_hand hΓ)⟩
    · clear hx4
      rintro e st' ⟨rfl, hl5⟩
      refine then_normal ?_
      refine awp_le hl5 ?_
      obtain ⟨hc6, h⟩ := chk_some h
      refine rgs [] [] (⟨[(0, (Q97 a_x)), (7, (.vsl 30 ((w64 x3.2)).toNat))], [(30, .arr 1 3 (((w64 x3.2)).toNat) (fun i_ => AV.eraseAll (fun n_ => memB n_ [30]) ((fun _ => [(.int .i64 (0 : Int))]) i_)))], []⟩ : St) [(0 ≤ (w64 x3.2) ∧ (w64 x3.2) ≤ (w64 x3.2) ∧ (w64 x3.2) ≤ (room : Int))] hn mix (no_hand hΓ) (by kernel_rfl) ⟨hc6, trivial⟩ ?_
      refine awp_le (Le.trans (le_of (st' := (⟨[(0, (Q97 a_x)), (7, (.vsl 30 ((w64 x3.2)).toNat))], [(30, .arr 1 3 (((w64 x3.2)).toNat) (fun i => eI64 ((Q95 x3).getD i (0 : Int))))], []⟩ : St)) (TmpsLe.refl _) (.arr (fun k hk => make_le (e := eI64) (d := (0 : Int)) (.cons (AVle.refl _) .nil) _ k (repl_lt hk)) .nil)) (le_eq (congrArg (fun k_ : Nat => (⟨[(0, (Q97 a_x)), (7, (.vsl 30 k_))], [(30, .arr 1 3 k_ (fun i => eI64 ((Q95 x3).getD i (0 : Int))))], []⟩ : St)) (show ((w64 x3.2)).toNat = (Q95 x3).length from (List.length_replicate ..).symm)))) ?_
      refine rgs [] [] (⟨[(7, (.vsl 30 (Q95 x3).length)), (8, (.int .i64 ((Q100 a_x x3) : Int)))], [(30, .arr 1 3 ((Q95 x3).length) (fun i_ => AV.eraseAll (fun n_ => memB n_ [30]) ((cpF (fun i => eI64 ((Q95 x3).getD i (0 : Int))) 0 (Q100 a_x x3) (fun i => eI64 (a_x.getD i (0 : Int)))) i_)))], []⟩ : St) [((Q95 x3).length = (Q95 x3).length)] hn mix (no_hand hΓ) (by kernel_rfl) ⟨rfl, trivial⟩ ?_
      refine awp_le (Le.trans (le_of (st' := (⟨[(7, (.vsl 30 (Q95 x3).length)), (8, (.int .i64 ((Q100 a_x x3) : Int)))], [(30, .arr 1 3 ((Q95 x3).length) (fun i => eI64 ((Q102 x3 a_x).getD i (0 : Int))))], []⟩ : St)) (TmpsLe.refl _) (.arr (leL_of_eq (cpL_length ..) (fun k_ hk_ => (congrArg (AV.eraseAll (fun n_ => memB n_ [30])) ((cpF_cpL (e := eI64) (d := (0 : Int)) (l := (Q95 x3)) (s := (fun i => a_x.getD i (0 : Int))) (fun _ _ => rfl) (fun _ _ => rfl)) k_ hk_)).trans rfl)) .nil)) (le_eq (congrArg (fun k_ : Nat => (⟨[(7, (.vsl 30 k_)), (8, (.int .i64 ((Q100 a_x x3) : Int)))], [(30, .arr 1 3 k_ (fun i => eI64 ((Q102 x3 a_x).getD i (0 : Int))))], []⟩ : St)) (show (Q95 x3).length = (Q102 x3 a_x).length from (cpL_length ..))))) ?_
      refine awp_seq ?_
      refine awp_block ?_
      refine awp_le (st' := (fun ((i7, l8) : (Int × List (Int))) => (Q99 l8 i7)) (((Q100 a_x x3) : Int), (Q102 x3 a_x))) (Le.refl _ _) ?_
      obtain ⟨x12, hx12, h⟩ := bind_some h
      refine awp_loop (fun ((i7, l8) : (Int × List (Int))) => (Q99 l8 i7)) _ (fun (l9 : List (Int)) (e : Exit) (st : St) => e = (.exit 0) ∧ Le Γ st (⟨[(7, (.vsl 30 l9.length))], [(30, .arr 1 3 l9.length (fun i => eI64 (l9.getD i (0 : Int))))], []⟩ : St)) ?_ hx12 ?_
      · rintro ⟨i7, l8⟩ y h
        unfold m_slices_Repeat_int_int_L1 at h
        refine awp_seq ?_
        refine rgs0 (⟨[(7, (.vsl 30 l8.length)), (8, (.int .i64 i7)), (37, (.bool (decide ((i7 : Int) < (l8.length : Int)))))], [(30, .arr 1 3 l8.length (fun i => eI64 (l8.getD i (0 : Int))))], []⟩ : St) hn mix (no_hand hΓ) (by kernel_rfl) ?_
        refine awp_cond (decide ((i7 : Int) < (l8.length : Int))) (by kernel_rfl) (fun hb => ?_) (fun hb => ?_)
        · replace h := cond_t hb h
          clear hb
          refine awp_skip ?_
          refine then_normal ?_
          refine awp_block ?_
          obtain ⟨hc10, h⟩ := chk_some h
          obtain ⟨hc11, h⟩ := chk_some h
          refine rg [] [] (⟨[(7, (.vsl 30 l8.length)), (8, (.int .i64 (w64 (i7 + ((Q96 i7 l8) : Int)))))], [(30, .arr 1 3 l8.length (fun i_ => AV.eraseAll (fun n_ => memB n_ [30]) ((cpF (fun i => eI64 (l8.getD i (0 : Int))) (0 + (i7).toNat) (Q96 i7 l8) (fun i => (fun i => eI64 (l8.getD i (0 : Int))) (0 + i))) i_)))], []⟩ : St) [(0 ≤ i7 ∧ 0 + (i7).toNat ≤ l8.length), (0 ≤ i7 ∧ 0 + (i7).toNat ≤ l8.length), (l8.length = l8.length), (l8.length = l8.length)] hn mix (no_hand hΓ) (by kernel_rfl) ⟨hc10, hc11, rfl, rfl, trivial⟩ ?_
          refine block_normal ?_
          obtain rfl := Option.some.inj h
          exact ⟨rfl, Le.trans (Le.trans (le_of (st' := (⟨[(7, (.vsl 30 l8.length)), (8, (.int .i64 (w64 (i7 + ((Q96 i7 l8) : Int)))))], [(30, .arr 1 3 l8.length (fun i => eI64 ((Q101 l8 i7).getD i (0 : Int))))], []⟩ : St)) (TmpsLe.refl _) (.arr (leL_of_eq (cpL_length ..) (fun k_ hk_ => (congrArg (AV.eraseAll (fun n_ => memB n_ [30])) ((cpF_cpL (e := eI64) (d := (0 : Int)) (l := l8) (s := (fun i => l8.getD (0 + i) (0 : Int))) (fun _ _ => rfl) (fun _ _ => rfl)) k_ hk_)).trans rfl)) .nil)) (le_eq (congrArg (fun k_ : Nat => (⟨[(7, (.vsl 30 k_)), (8, (.int .i64 (w64 (i7 + ((Q96 i7 l8) : Int)))))], [(30, .arr 1 3 k_ (fun i => eI64 ((Q101 l8 i7).getD i (0 : Int))))], []⟩ : St)) (show l8.length = (Q101 l8 i7).length from (cpL_length ..))))) (Le.refl _ _)⟩
        · replace h := cond_f hb h
          clear hb
          refine awp_exit ?_
          refine then_exit ?_
          obtain rfl := Option.some.inj h
          exact ⟨(by intro hh; cases hh), rfl, le_restrict_eq [7] [30] (by kernel_rfl) (no_hand hΓ)⟩
      · clear hx12
        rintro e st' ⟨rfl, hl13⟩
        refine block_here ?_
        refine then_normal ?_
        refine awp_le hl13 ?_
        refine rgs0 (⟨[(4, (.vsl 30 x12.length))], [(30, .arr 1 3 x12.length (fun i => eI64 (x12.getD i (0 : Int))))], []⟩ : St) hn mix (no_hand hΓ) (by kernel_rfl) ?_
        refine awp_ret ?_
        obtain rfl := Option.some.inj h
        exact ⟨.inl rfl, [(30, 20000)], by kernel_rfl⟩

noncomputable def m_dom_meet_v2_L1 (a_tree : List (Int)) : (Int × List (Bool)) → Option (LR (Int × List (Bool)) (List (Bool))) :=
  fun ((i2, l3) : (Int × List (Bool))) => (bif ((i2 : Int) != (-1 : Int)) then (chk (InB i2 l3.length) (chk (InB i2 a_tree.length) (some (.next ((a_tree.getD (i2).toNat (0 : Int)), (l3.set (i2).toNat true)))))) else (some (.done l3)))
noncomputable def m_dom_meet_v2_L2 (a_tree : List (Int)) (l4 : List (Bool)) : Int → Option (LR Int Int) :=
  fun (i9 : Int) => (chk (InB i9 l4.length) (bif (!(l4.getD (i9).toNat false)) then (chk (InB i9 a_tree.length) (some (.next (a_tree.getD (i9).toNat (0 : Int))))) else (some (.done i9))))
noncomputable def Q104 (a_tree : List (Int)) : AV := (.vsl 34000 a_tree.length)
noncomputable def Q103 (a_tree : List (Int)) := (fun i => eI64 (a_tree.getD i (0 : Int)))
noncomputable def Q105 (a_tree : List (Int)) := (List.replicate ((a_tree.length : Int)).toNat false)
noncomputable def Q107 (a_tree : List (Int)) (a_b : Int) (l3 : List (Bool)) (i2 : Int) : List (Nat × AV) := [(0, (Q104 a_tree)), (2, (.int .i64 a_b)), (7, (.vsl 11 l3.length)), (8, (.int .i64 i2))]
noncomputable def Q106 (x7 : List (Bool)) (a_tree : List (Int)) : List (Nat × Own) := [(11, .arr 1 4 x7.length (fun i => eB (x7.getD i false))), (34000, .arr 1 3 a_tree.length (Q103 a_tree))]
noncomputable def Q108 (l3 : List (Bool)) (a_tree : List (Int)) : List (Nat × Own) := [(11, .arr 1 4 l3.length (fun i => eB (l3.getD i false))), (34000, .arr 1 3 a_tree.length (Q103 a_tree))]
noncomputable def m_dom_meet_v2 (a_tree : List (Int)) (a_a : Int) (a_b : Int) : Option (Int × List (Int)) :=
  (chk (0 ≤ (a_tree.length : Int) ∧ (a_tree.length : Int) ≤ (a_tree.length : Int) ∧ (a_tree.length : Int) ≤ (room : Int)) ((loopO (S := (Int × List (Bool))) (X := List (Bool)) (m_dom_meet_v2_L1 a_tree) (a_a, (List.replicate ((a_tree.length : Int)).toNat false))).bind (fun x7 => (((loopO (S := Int) (X := Int) (m_dom_meet_v2_L2 a_tree x7) a_b).bind (fun x13 => ((some (x13, a_tree)))))))))
theorem ok_dom_meet_v2 (a_tree : List (Int)) (a_a : Int) (a_b : Int) (r : (Int × List (Int))) (h : m_dom_meet_v2 a_tree a_a a_b = some r) : Spec Try.prog 33 [(.vsl 34000 a_tree.length), (.int .i64 a_a), (.int .i64 a_b)] [(34000, .arr 1 3 a_tree.length (fun i => eI64 (a_tree.getD i (0 : Int))))] (.int .i64 r.1) [(34000, .arr 1 3 r.2.length (fun i => eI64 (r.2.getD i (0 : Int))))] := by
  refine spec_of_awp (fn := Try.f33) Try.func33 rfl rfl (by kernel_rfl) (fun Γ hn hΓ => ?_)
  have hn : Γ.n = 32 := hn
  unfold m_dom_meet_v2 at h
  refine rgs0 (⟨[(0, (Q104 a_tree)), (1, (.int .i64 a_a)), (2, (.int .i64 a_b))], [(34000, .arr 1 3 a_tree.length (Q103 a_tree))], []⟩ : St) hn mix (hand_in hΓ rfl) (by kernel_rfl) ?_
  obtain ⟨hc1, h⟩ := chk_some h
  refine rgs [] [] (⟨[(0, (Q104 a_tree)), (1, (.int .i64 a_a)), (2, (.int .i64 a_b)), (7, (.vsl 11 ((a_tree.length : Int)).toNat))], [(11, .arr 1 4 (((a_tree.length : Int)).toNat) (fun i_ => AV.eraseAll (fun n_ => memB n_ [11, 34000]) ((fun _ => [(.bool false)]) i_))), (34000, .arr 1 3 a_tree.length (Q103 a_tree))], []⟩ : St) [(0 ≤ (a_tree.length : Int) ∧ (a_tree.length : Int) ≤ (a_tree.length : Int) ∧ (a_tree.length : Int) ≤ (room : Int))] hn mix (hand_in hΓ rfl) (by kernel_rfl) ⟨hc1, trivial⟩ ?_
  refine awp_le (Le.trans (le_of (st' := (⟨[(0, (Q104 a_tree)), (1, (.int .i64 a_a)), (2, (.int .i64 a_b)), (7, (.vsl 11 ((a_tree.length : Int)).toNat))], [(11, .arr 1 4 (((a_tree.length : Int)).toNat) (fun i => eB ((Q105 a_tree).getD i false))), (34000, .arr 1 3 a_tree.length (Q103 a_tree))], []⟩ : St)) (TmpsLe.refl _) (.arr (fun k hk => make_le (e := eB) (d := false) (.cons (AVle.refl _) .nil) _ k (repl_lt hk)) (.same .nil))) (le_eq (congrArg (fun k_ : Nat => (⟨[(0, (Q104 a_tree)), (1, (.int .i64 a_a)), (2, (.int .i64 a_b)), (7, (.vsl 11 k_))], [(11, .arr 1 4 k_ (fun i => eB ((Q105 a_tree).getD i false))), (34000, .arr 1 3 a_tree.length (Q103 a_tree))], []⟩ : St)) (show ((a_tree.length : Int)).toNat = (Q105 a_tree).length from (List.length_replicate ..).symm)))) ?_
  refine awp_seq ?_
  refine rgs0 (⟨[(0, (Q104 a_tree)), (2, (.int .i64 a_b)), (7, (.vsl 11 (Q105 a_tree).length)), (8, (.int .i64 a_a))], [(11, .arr 1 4 ((Q105 a_tree).length) (fun i => eB ((Q105 a_tree).getD i false))), (34000, .arr 1 3 a_tree.length (Q103 a_tree))], []⟩ : St) hn mix (hand_in hΓ rfl) (by kernel_rfl) ?_
  refine awp_block ?_
  refine awp_le (st' := (fun ((i2, l3) : (Int × List (Bool))) => (⟨(Q107 a_tree a_b l3 i2), (Q108 l3 a_tree), []⟩ : St)) (a_a, (Q105 a_tree))) (Le.refl _ _) ?_
  obtain ⟨x7, hx7, h⟩ := bind_some h
  refine awp_loop (fun ((i2, l3) : (Int × List (Bool))) => (⟨(Q107 a_tree a_b l3 i2), (Q108 l3 a_tree), []⟩ : St)) _ (fun (l4 : List (Bool)) (e : Exit) (st : St) => e = (.exit 0) ∧ Le Γ st (⟨[(0, (Q104 a_tree)), (2, (.int .i64 a_b)), (7, (.vsl 11 l4.length))], [(11, .arr 1 4 l4.length (fun i => eB (l4.getD i false))), (34000, .arr 1 3 a_tree.length (Q103 a_tree))], []⟩ : St)) ?_ hx7 ?_
  · rintro ⟨i2, l3⟩ y h
    unfold m_dom_meet_v2_L1 at h
    refine awp_seq ?_
    refine rgs0 (⟨[(0, (Q104 a_tree)), (2, (.int .i64 a_b)), (7, (.vsl 11 l3.length)), (8, (.int .i64 i2)), (14, (.bool ((i2 : Int) != (-1 : Int))))], (Q108 l3 a_tree), []⟩ : St) hn mix (hand_in hΓ rfl) (by kernel_rfl) ?_
    refine awp_cond ((i2 : Int) != (-1 : Int)) (by kernel_rfl) (fun hb => ?_) (fun hb => ?_)
    · replace h := cond_t hb h
      clear hb
      refine awp_skip ?_
      refine then_normal ?_
      refine awp_seq ?_
      refine awp_block ?_
      obtain ⟨hc5, h⟩ := chk_some h
      refine rg [] [] (⟨(Q107 a_tree a_b l3 i2), [(11, .arr 1 4 l3.length (fun i_ => AV.eraseAll (fun n_ => memB n_ [11, 34000]) ((putF (fun i => eB (l3.getD i false)) (i2).toNat 0 [(.bool true)]) i_))), (34000, .arr 1 3 a_tree.length (Q103 a_tree))], []⟩ : St) [(InB i2 l3.length), (l3.length = l3.length)] hn mix (hand_in hΓ rfl) (by kernel_rfl) ⟨hc5, rfl, trivial⟩ ?_
      refine block_normal ?_
      refine then_normal ?_
      refine awp_le (Le.trans (le_of (st' := (⟨(Q107 a_tree a_b l3 i2), [(11, .arr 1 4 l3.length (fun i => eB ((l3.set (i2).toNat true).getD i false))), (34000, .arr 1 3 a_tree.length (Q103 a_tree))], []⟩ : St)) (TmpsLe.refl _) (.arr (leL_of_eq (List.length_set ..).symm (fun k_ hk_ => (congrArg (AV.eraseAll (fun n_ => memB n_ [11, 34000])) ((putF_set (fun _ _ => rfl) (inB_lt0 hc5) rfl) k_ hk_)).trans rfl)) (.same .nil))) (le_eq (congrArg (fun k_ : Nat => (⟨[(0, (Q104 a_tree)), (2, (.int .i64 a_b)), (7, (.vsl 11 k_)), (8, (.int .i64 i2))], [(11, .arr 1 4 k_ (fun i => eB ((l3.set (i2).toNat true).getD i false))), (34000, .arr 1 3 a_tree.length (Q103 a_tree))], []⟩ : St)) (show l3.length = (l3.set (i2).toNat true).length from (List.length_set ..).symm)))) ?_
      obtain ⟨hc6, h⟩ := chk_some h
      refine rg [] [] (⟨[(0, (Q104 a_tree)), (2, (.int .i64 a_b)), (7, (.vsl 11 (l3.set (i2).toNat true).length)), (8, (.int .i64 (a_tree.getD (i2).toNat (0 : Int))))], [(11, .arr 1 4 ((l3.set (i2).toNat true).length) (fun i => eB ((l3.set (i2).toNat true).getD i false))), (34000, .arr 1 3 a_tree.length (Q103 a_tree))], []⟩ : St) [(InB i2 a_tree.length), (a_tree.length = a_tree.length)] hn mix (hand_in hΓ rfl) (by kernel_rfl) ⟨hc6, rfl, trivial⟩ ?_
      obtain rfl := Option.some.inj h
      exact ⟨rfl, Le.refl _ _⟩
    · replace h := cond_f hb h
      clear hb
      refine awp_exit ?_
      refine then_exit ?_
      obtain rfl := Option.some.inj h
      exact ⟨(by intro hh; cases hh), rfl, le_restrict_eq [0, 2, 7] [11, 34000] (by kernel_rfl) (hand_in hΓ rfl)⟩
  · clear hx7
    rintro e st' ⟨rfl, hl8⟩
    refine block_here ?_
    refine then_normal ?_
    refine awp_le hl8 ?_
    refine awp_seq ?_
    refine awp_block ?_
    refine awp_le (st' := (fun (i9 : Int) => (⟨[(0, (Q104 a_tree)), (2, (.int .i64 i9)), (7, (.vsl 11 x7.length))], (Q106 x7 a_tree), []⟩ : St)) a_b) (Le.refl _ _) ?_
    obtain ⟨x13, hx13, h⟩ := bind_some h
    refine awp_loop (fun (i9 : Int) => (⟨[(0, (Q104 a_tree)), (2, (.int .i64 i9)), (7, (.vsl 11 x7.length))], (Q106 x7 a_tree), []⟩ : St)) _ (fun (i10 : Int) (e : Exit) (st : St) => e = (.exit 2) ∧ Le Γ st (⟨[(2, (.int .i64 i10))], [(34000, .arr 1 3 a_tree.length (Q103 a_tree))], []⟩ : St)) ?_ hx13 ?_
    · intro i9 y h
      unfold m_dom_meet_v2_L2 at h
      refine awp_seq ?_
      obtain ⟨hc11, h⟩ := chk_some h
      refine rgs [] [] (⟨[(0, (Q104 a_tree)), (2, (.int .i64 i9)), (7, (.vsl 11 x7.length)), (26, (.bool (!(x7.getD (i9).toNat false))))], (Q106 x7 a_tree), []⟩ : St) [(InB i9 x7.length), (x7.length = x7.length)] hn mix (hand_in hΓ rfl) (by kernel_rfl) ⟨hc11, rfl, trivial⟩ ?_
      refine awp_cond (!(x7.getD (i9).toNat false)) (by kernel_rfl) (fun hb => ?_) (fun hb => ?_)
      · replace h := cond_t hb h
        clear hb
        refine awp_skip ?_
        refine then_normal ?_
        refine awp_block ?_
        obtain ⟨hc12, h⟩ := chk_some h
        refine rg [] [] (⟨[(0, (Q104 a_tree)), (2, (.int .i64 (a_tree.getD (i9).toNat (0 : Int)))), (7, (.vsl 11 x7.length))], (Q106 x7 a_tree), []⟩ : St) [(InB i9 a_tree.length), (a_tree.length = a_tree.length)] hn mix (hand_in hΓ rfl) (by kernel_rfl) ⟨hc12, rfl, trivial⟩ ?_
        refine block_normal ?_
        obtain rfl := Option.some.inj h
        exact ⟨rfl, Le.refl _ _⟩
      · replace h := cond_f hb h
        clear hb
        refine awp_exit ?_
        refine then_exit ?_
        obtain rfl := Option.some.inj h
        exact ⟨(by intro hh; cases hh), rfl, le_restrict_eq [2] [34000] (by kernel_rfl) (hand_in hΓ rfl)⟩
    · clear hx13
      rintro e st' ⟨rfl, hl14⟩
      refine block_here ?_
      refine then_normal ?_
      refine awp_le hl14 ?_
      refine rgs0 (⟨[(6, (.int .i64 x13))], [(34000, .arr 1 3 a_tree.length (Q103 a_tree))], []⟩ : St) hn mix (hand_in hΓ rfl) (by kernel_rfl) ?_
      refine awp_ret ?_
      obtain rfl := Option.some.inj h
      exact ⟨.inl rfl, [(34000, 34000)], by kernel_rfl⟩

noncomputable def m_dom_meetAll_v2_L1 (a_list : List (Int)) : (Int × Int × List (Int)) → Option (LR (Int × Int × List (Int)) (Int × List (Int))) :=
  fun ((i1, i2, l3) : (Int × Int × List (Int))) => (bif (decide ((i2 : Int) < (a_list.length : Int))) then (Option.bind (α := (Int × List (Int))) (chk (InB i2 a_list.length) (chk (InB (a_list.getD (i2).toNat (0 : Int)) l3.length) (bif (((l3.getD ((a_list.getD (i2).toNat (0 : Int))).toNat (0 : Int)) : Int) == (-2 : Int)) then (some ((i1, l3))) else (bif ((i1 : Int) == (-2 : Int)) then (some (((a_list.getD (i2).toNat (0 : Int)), l3))) else ((m_dom_meet_v2 l3 i1 (a_list.getD (i2).toNat (0 : Int))).bind fun x10 => (chk (l3.length = x10.2.length) (some ((x10.1, x10.2))))))))) (fun x12 => (match x12 with | (i6, l7) => (some (.next (i6, (w64 (i2 + (1 : Int))), l7)))))) else (some (.done (i1, l3))))
noncomputable def Q115 (l3 : List (Int)) : AV := (.vsl 34000 l3.length)
noncomputable def Q111 (a_list : List (Int)) : AV := (.int .i64 (a_list.length : Int))
noncomputable def Q112 (a_list : List (Int)) (i2 : Int) := (a_list.getD (i2).toNat (0 : Int))
noncomputable def Q110 (a_list : List (Int)) : AV := (AV.list 1 eI64 (0 : Int) a_list .none)
noncomputable def Q109 (l3 : List (Int)) : List (Nat × Own) := [(34000, .arr 1 3 l3.length (fun i => eI64 (l3.getD i (0 : Int))))]
noncomputable def Q113 (x10 : (Int × List (Int))) : List (Nat × Own) := [(34000, .arr 1 3 x10.2.length (fun i => eI64 (x10.2.getD i (0 : Int))))]
noncomputable def Q114 (a_tree : List (Int)) : List (Nat × Own) := [(34000, .arr 1 3 a_tree.length (fun i => eI64 (a_tree.getD i (0 : Int))))]
noncomputable def m_dom_meetAll_v2 (a_tree : List (Int)) (a_list : List (Int)) : Option (Int × List (Int)) :=
  ((loopO (S := (Int × Int × List (Int))) (X := (Int × List (Int))) (m_dom_meetAll_v2_L1 a_list) ((-2 : Int), (0 : Int), a_tree)).bind (fun x14 => (match x14 with | (i4, l5) => (some (i4, l5)))))
theorem ok_dom_meetAll_v2 (a_tree : List (Int)) (a_list : List (Int)) (r : (Int × List (Int))) (h : m_dom_meetAll_v2 a_tree a_list = some r) : Spec Try.prog 28 [(.vsl 34000 a_tree.length), (AV.list 1 eI64 (0 : Int) a_list .none)] [(34000, .arr 1 3 a_tree.length (fun i => eI64 (a_tree.getD i (0 : Int))))] (.int .i64 r.1) [(34000, .arr 1 3 r.2.length (fun i => eI64 (r.2.getD i (0 : Int))))] := by
  refine spec_of_awp (fn := Try.f28) Try.func28 rfl rfl (by kernel_rfl) (fun Γ hn hΓ => ?_)
  have hn : Γ.n = 30 := hn
  unfold m_dom_meetAll_v2 at h
  refine rgs0 (⟨[(0, (.vsl 34000 a_tree.length)), (1, (Q110 a_list))], (Q114 a_tree), []⟩ : St) hn mix (hand_in hΓ rfl) (by kernel_rfl) ?_
  refine rgs0 (⟨[(0, (.vsl 34000 a_tree.length)), (1, (Q110 a_list)), (5, (.int .i64 (-2 : Int)))], (Q114 a_tree), []⟩ : St) hn mix (hand_in hΓ rfl) (by kernel_rfl) ?_
  refine awp_seq ?_
  refine rgs0 (⟨[(0, (.vsl 34000 a_tree.length)), (5, (.int .i64 (-2 : Int))), (8, (Q110 a_list)), (9, (Q111 a_list)), (10, (.int .i64 (0 : Int)))], (Q114 a_tree), []⟩ : St) hn mix (hand_in hΓ rfl) (by kernel_rfl) ?_
  refine awp_block ?_
  refine awp_le (st' := (fun ((i1, i2, l3) : (Int × Int × List (Int))) => (⟨[(0, (Q115 l3)), (5, (.int .i64 i1)), (8, (Q110 a_list)), (9, (Q111 a_list)), (10, (.int .i64 i2))], (Q109 l3), []⟩ : St)) ((-2 : Int), (0 : Int), a_tree)) (Le.refl _ _) ?_
  obtain ⟨x14, hx14, h⟩ := bind_some h
  refine awp_loop (fun ((i1, i2, l3) : (Int × Int × List (Int))) => (⟨[(0, (Q115 l3)), (5, (.int .i64 i1)), (8, (Q110 a_list)), (9, (Q111 a_list)), (10, (.int .i64 i2))], (Q109 l3), []⟩ : St)) _ (fun ((i4, l5) : (Int × List (Int))) (e : Exit) (st : St) => e = (.exit 0) ∧ Le Γ st (⟨[(5, (.int .i64 i4))], [(34000, .arr 1 3 l5.length (fun i => eI64 (l5.getD i (0 : Int))))], []⟩ : St)) ?_ hx14 ?_
  · rintro ⟨i1, i2, l3⟩ y h
    unfold m_dom_meetAll_v2_L1 at h
    refine rgs0 (⟨[(0, (Q115 l3)), (5, (.int .i64 i1)), (8, (Q110 a_list)), (9, (Q111 a_list)), (10, (.int .i64 i2)), (11, (.bool (decide ((i2 : Int) < (a_list.length : Int)))))], (Q109 l3), []⟩ : St) hn mix (hand_in hΓ rfl) (by kernel_rfl) ?_
    refine awp_seq ?_
    refine awp_cond (decide ((i2 : Int) < (a_list.length : Int))) (by kernel_rfl) (fun hb => ?_) (fun hb => ?_)
    · replace h := cond_t hb h
      clear hb
      refine awp_skip ?_
      refine then_normal ?_
      refine awp_seq ?_
      obtain ⟨x12, hx12, h⟩ := bind_some h
      refine awp_join (fun ((i6, l7) : (Int × List (Int))) (e : Exit) (st : St) => e = .normal ∧ Le Γ st (⟨[(0, (.vsl 34000 l7.length)), (5, (.int .i64 i6)), (8, (Q110 a_list)), (9, (Q111 a_list)), (10, (.int .i64 i2))], [(34000, .arr 1 3 l7.length (fun i => eI64 (l7.getD i (0 : Int))))], []⟩ : St)) hx12 ?_ ?_
      · clear h hx12
        intro y h
        refine awp_block ?_
        obtain ⟨hc8, h⟩ := chk_some h
        refine rgs [] [] (⟨[(0, (Q115 l3)), (5, (.int .i64 i1)), (7, (.int .i64 (Q112 a_list i2))), (8, (Q110 a_list)), (9, (Q111 a_list)), (10, (.int .i64 i2))], (Q109 l3), []⟩ : St) [(InB i2 a_list.length)] hn mix (hand_in hΓ rfl) (by kernel_rfl) ⟨hc8, trivial⟩ ?_
        refine awp_block ?_
        obtain ⟨hc9, h⟩ := chk_some h
        refine rgs [] [] (⟨[(0, (Q115 l3)), (5, (.int .i64 i1)), (7, (.int .i64 (Q112 a_list i2))), (8, (Q110 a_list)), (9, (Q111 a_list)), (10, (.int .i64 i2)), (18, (.bool (((l3.getD ((Q112 a_list i2)).toNat (0 : Int)) : Int) == (-2 : Int))))], (Q109 l3), []⟩ : St) [(InB (Q112 a_list i2) l3.length), (l3.length = l3.length)] hn mix (hand_in hΓ rfl) (by kernel_rfl) ⟨hc9, rfl, trivial⟩ ?_
        refine awp_cond (((l3.getD ((Q112 a_list i2)).toNat (0 : Int)) : Int) == (-2 : Int)) (by kernel_rfl) (fun hb => ?_) (fun hb => ?_)
        · replace h := cond_t hb h
          clear hb
          refine awp_skip ?_
          refine block_normal ?_
          refine block_normal ?_
          obtain rfl := Option.some.inj h
          exact ⟨rfl, le_restrict_eq [0, 5, 8, 9, 10] [34000] (by kernel_rfl) (hand_in hΓ rfl)⟩
        · replace h := cond_f hb h
          clear hb
          refine rgs0 (⟨[(0, (Q115 l3)), (5, (.int .i64 i1)), (7, (.int .i64 (Q112 a_list i2))), (8, (Q110 a_list)), (9, (Q111 a_list)), (10, (.int .i64 i2)), (24, (.bool ((i1 : Int) == (-2 : Int))))], (Q109 l3), []⟩ : St) hn mix (hand_in hΓ rfl) (by kernel_rfl) ?_
          refine awp_cond ((i1 : Int) == (-2 : Int)) (by kernel_rfl) (fun hb => ?_) (fun hb => ?_)
          · replace h := cond_t hb h
            clear hb
            refine rg0 (⟨[(0, (Q115 l3)), (5, (.int .i64 (Q112 a_list i2))), (8, (Q110 a_list)), (9, (Q111 a_list)), (10, (.int .i64 i2))], (Q109 l3), []⟩ : St) hn mix (hand_in hΓ rfl) (by kernel_rfl) ?_
            refine block_normal ?_
            refine block_normal ?_
            obtain rfl := Option.some.inj h
            exact ⟨rfl, Le.refl _ _⟩
          · replace h := cond_f hb h
            clear hb
            obtain ⟨x10, hx10, h⟩ := bind_some h
            obtain ⟨hc11, h⟩ := chk_some h
            refine rg [⟨[(34000, 34000)], [], (.int .i64 x10.1), (Q113 x10)⟩] [] (⟨[(0, (Q115 l3)), (5, (.int .i64 x10.1)), (8, (Q110 a_list)), (9, (Q111 a_list)), (10, (.int .i64 i2))], (Q113 x10), []⟩ : St) [(Spec Try.prog 33 [(Q115 l3), (.int .i64 i1), (.int .i64 (Q112 a_list i2))] (Q109 l3) (.int .i64 x10.1) (Q113 x10))] hn mix (hand_in hΓ rfl) (by kernel_rfl) ⟨(ok_dom_meet_v2 l3 i1 (Q112 a_list i2) x10 hx10), trivial⟩ ?_
            refine block_normal ?_
            refine block_normal ?_
            obtain rfl := Option.some.inj h
            exact ⟨rfl, Le.trans (le_eq (congrArg (fun k_ : Nat => (⟨[(0, (.vsl 34000 k_)), (5, (.int .i64 x10.1)), (8, (Q110 a_list)), (9, (Q111 a_list)), (10, (.int .i64 i2))], (Q113 x10), []⟩ : St)) (show l3.length = x10.2.length from hc11))) (Le.refl _ _)⟩
      · clear hx12
        rcases x12 with ⟨i6, l7⟩
        rintro e st' ⟨rfl, hl13⟩
        refine then_normal ?_
        refine awp_le hl13 ?_
        refine rg0 (⟨[(0, (.vsl 34000 l7.length)), (5, (.int .i64 i6)), (8, (Q110 a_list)), (9, (Q111 a_list)), (10, (.int .i64 (w64 (i2 + (1 : Int)))))], [(34000, .arr 1 3 l7.length (fun i => eI64 (l7.getD i (0 : Int))))], []⟩ : St) hn mix (hand_in hΓ rfl) (by kernel_rfl) ?_
        obtain rfl := Option.some.inj h
        exact ⟨rfl, Le.refl _ _⟩
    · replace h := cond_f hb h
      clear hb
      refine awp_exit ?_
      refine then_exit ?_
      obtain rfl := Option.some.inj h
      exact ⟨(by intro hh; cases hh), rfl, le_restrict_eq [5] [34000] (by kernel_rfl) (hand_in hΓ rfl)⟩
  · clear hx14
    rcases x14 with ⟨i4, l5⟩
    rintro e st' ⟨rfl, hl15⟩
    refine block_here ?_
    refine then_normal ?_
    refine awp_le hl15 ?_
    refine rgs0 (⟨[(4, (.int .i64 i4))], [(34000, .arr 1 3 l5.length (fun i => eI64 (l5.getD i (0 : Int))))], []⟩ : St) hn mix (hand_in hΓ rfl) (by kernel_rfl) ?_
    refine awp_ret ?_
    obtain rfl := Option.some.inj h
    exact ⟨.inl rfl, [(34000, 34000)], by kernel_rfl⟩

noncomputable def m_dom_Tree_L1 (a_g : TGraph) (x3 : List (Int)) : (Bool × Int × List (Int)) → Option (LR (Bool × Int × List (Int)) (Bool × List (Int))) :=
  fun ((b7, i8, l9) : (Bool × Int × List (Int))) => (bif (decide ((i8 : Int) < ((x3.drop ((1 : Int)).toNat).length : Int))) then (Option.bind (α := (Bool × List (Int))) (chk (InB i8 (x3.drop ((1 : Int)).toNat).length) (chk (InB ((x3.drop ((1 : Int)).toNat).getD (i8).toNat (0 : Int)) a_g.Pred.length) ((m_dom_meetAll_v2 l9 (a_g.Pred.getD (((x3.drop ((1 : Int)).toNat).getD (i8).toNat (0 : Int))).toNat [])).bind fun x16 => (chk (l9.length = x16.2.length) (chk (InB ((x3.drop ((1 : Int)).toNat).getD (i8).toNat (0 : Int)) x16.2.length) (bif ((x16.1 : Int) != (x16.2.getD (((x3.drop ((1 : Int)).toNat).getD (i8).toNat (0 : Int))).toNat (0 : Int))) then (chk (InB ((x3.drop ((1 : Int)).toNat).getD (i8).toNat (0 : Int)) x16.2.length) (some ((true, (x16.2.set (((x3.drop ((1 : Int)).toNat).getD (i8).toNat (0 : Int))).toNat x16.1))))) else (some ((b7, x16.2))))))))) (fun x20 => (match x20 with | (b12, l13) => (some (.next (b12, (w64 (i8 + (1 : Int))), l13)))))) else (some (.done (b7, l9))))
noncomputable def m_dom_Tree_L2 (a_g : TGraph) (l1 : List (Int)) : (Bool × Int × List (Int)) → Option (LR (Bool × Int × List (Int)) (Bool × List (Int))) :=
  fun ((b25, i26, l27) : (Bool × Int × List (Int))) => (bif (decide ((i26 : Int) < ((l1.drop ((1 : Int)).toNat).length : Int))) then (Option.bind (α := (Bool × List (Int))) (chk (InB i26 (l1.drop ((1 : Int)).toNat).length) (chk (InB ((l1.drop ((1 : Int)).toNat).getD (i26).toNat (0 : Int)) a_g.Pred.length) ((m_dom_meetAll_v2 l27 (a_g.Pred.getD (((l1.drop ((1 : Int)).toNat).getD (i26).toNat (0 : Int))).toNat [])).bind fun x34 => (chk (l27.length = x34.2.length) (chk (InB ((l1.drop ((1 : Int)).toNat).getD (i26).toNat (0 : Int)) x34.2.length) (bif ((x34.1 : Int) != (x34.2.getD (((l1.drop ((1 : Int)).toNat).getD (i26).toNat (0 : Int))).toNat (0 : Int))) then (chk (InB ((l1.drop ((1 : Int)).toNat).getD (i26).toNat (0 : Int)) x34.2.length) (some ((true, (x34.2.set (((l1.drop ((1 : Int)).toNat).getD (i26).toNat (0 : Int))).toNat x34.1))))) else (some ((b25, x34.2))))))))) (fun x38 => (match x38 with | (b30, l31) => (some (.next (b30, (w64 (i26 + (1 : Int))), l31)))))) else (some (.done (b25, l27))))
noncomputable def m_dom_Tree_F3 (a_g : TGraph) : (List (Int) × List (Int)) → Option (LR (List (Int) × List (Int)) (List (Int))) :=
  fun (s_ : (List (Int) × List (Int))) => match s_ with | (l1, l2) => (chk (0 ≤ (1 : Int) ∧ (1 : Int) ≤ (l1.length : Int)) ((loopO (S := (Bool × Int × List (Int))) (X := (Bool × List (Int))) (m_dom_Tree_L2 a_g l1) (false, (0 : Int), l2)).bind (fun x40 => (match x40 with | (b28, l29) => (bif b28 then (some (.next (l1, l29))) else (some (.done l29)))))))
noncomputable def Q117 (l1 : List (Int)) := (l1.drop ((1 : Int)).toNat)
noncomputable def Q118 (x3 : List (Int)) := (x3.drop ((1 : Int)).toNat)
noncomputable def Q137 := (fun n_ => memB n_ [2, 13, 21])
noncomputable def Q121 (x4 : List (Int)) (a_root : Int) := (x4.set (a_root).toNat (-1 : Int))
noncomputable def Q132 (l1 : List (Int)) : AV := (.int .i64 ((Q117 l1).length : Int))
noncomputable def Q133 (x3 : List (Int)) : AV := (.int .i64 ((Q118 x3).length : Int))
noncomputable def Q131 (x3 : List (Int)) (i8 : Int) := ((Q118 x3).getD (i8).toNat (0 : Int))
noncomputable def Q125 (l11 : List (Int)) := (fun i => eI64 (l11.getD i (0 : Int)))
noncomputable def Q126 (l27 : List (Int)) := (fun i => eI64 (l27.getD i (0 : Int)))
noncomputable def Q127 (l29 : List (Int)) := (fun i => eI64 (l29.getD i (0 : Int)))
noncomputable def Q130 (l1 : List (Int)) (i26 : Int) := ((Q117 l1).getD (i26).toNat (0 : Int))
noncomputable def Q119 (x3 : List (Int)) : AV := (AV.list 1 eI64 (0 : Int) x3 (.own 13))
noncomputable def Q120 (l1 : List (Int)) : AV := (AV.list 1 eI64 (0 : Int) l1 (.own 13))
noncomputable def Q123 (x16 : (Int × List (Int))) := (fun i => eI64 (x16.2.getD i (0 : Int)))
noncomputable def Q124 (x34 : (Int × List (Int))) := (fun i => eI64 (x34.2.getD i (0 : Int)))
noncomputable def Q128 (l1 : List (Int)) : AV := (AV.list 1 eI64 (0 : Int) (Q117 l1) .none)
noncomputable def Q129 (x3 : List (Int)) : AV := (AV.list 1 eI64 (0 : Int) (Q118 x3) .none)
noncomputable def Q122 : AV := (AV.list 1 eI64 (0 : Int) ([] : List Int) .exact)
noncomputable def Q116 (a_g : TGraph) : List AV := [(AV.list 1 eLI64 [] a_g.Succ .none), (AV.list 1 eLI64 [] a_g.Pred .none)]
noncomputable def Q135 (a_g : TGraph) (l1 : List (Int)) (l27 : List (Int)) : List (Nat × Own) := [(2, .row 26 (Q116 a_g)), (13, .tok 1 3 l1.length), (21, .arr 1 3 l27.length (Q126 l27))]
noncomputable def Q134 (a_g : TGraph) (x3 : List (Int)) (l9 : List (Int)) : List (Nat × Own) := [(2, .row 26 (Q116 a_g)), (13, .tok 1 3 x3.length), (21, .arr 1 3 l9.length (fun i => eI64 (l9.getD i (0 : Int))))]
noncomputable def Q136 (a_g : TGraph) (l1 : List (Int)) (l2 : List (Int)) : List (Nat × Own) := [(2, .row 26 (Q116 a_g)), (13, .tok 1 3 l1.length), (21, .arr 1 3 l2.length (fun i => eI64 (l2.getD i (0 : Int))))]
noncomputable def Q138 := (⟨[(4, (AV.list 1 eI64 (0 : Int) ([] : List Int) (.own 6004)))], [(6004, .tok 1 3 (([] : List Int).length))], []⟩ : St)
noncomputable def m_dom_Tree (a_g : TGraph) (a_root : Int) : Option (List (Int)) :=
  ((scopeO (S := (List (Int) × List (Int))) (X := List (Int)) ((m_graph_Order a_g a_root).bind fun x3 => (bif (((x3.length : Int) : Int) == (0 : Int)) then (some (.done ([] : List Int))) else ((m_slices_Repeat_int_int ([(-2 : Int)] : List (Int)) (a_g.Succ.length : Int)).bind fun x4 => (chk (InB a_root x4.length) (chk (0 ≤ (1 : Int) ∧ (1 : Int) ≤ (x3.length : Int)) ((loopO (S := (Bool × Int × List (Int))) (X := (Bool × List (Int))) (m_dom_Tree_L1 a_g x3) (false, (0 : Int), (x4.set (a_root).toNat (-1 : Int)))).bind (fun x22 => (match x22 with | (b10, l11) => (bif b10 then (some (.next (x3, l11))) else (some (.done l11))))))))))) (m_dom_Tree_F3 a_g)).bind (fun x42 => ((some x42))))
theorem ok_dom_Tree (a_g : TGraph) (a_root : Int) (r : List (Int)) (h : m_dom_Tree a_g a_root = some r) : Spec Try.prog 13 [(.agg (eTGraph a_g)), (.int .i64 a_root)] [] (AV.list 1 eI64 (0 : Int) r (.own 20000)) [(20000, .tok 1 3 r.length)] := by
  refine spec_of_awp (fn := Try.f13) Try.func13 rfl rfl (by kernel_rfl) (fun Γ hn hΓ => ?_)
  have hn : Γ.n = 52 := hn
  unfold m_dom_Tree at h
  refine rgs [] [(4, Q122)] (⟨[(1, (.int .i64 a_root)), (2, (.ptr 2 0))], [(2, .row 26 (Q116 a_g))], []⟩ : St) [(AVle (.slice 0 0 (fun _ => []) .exact) Q122)] hn mix (no_hand hΓ) (by kernel_rfl) ⟨av_nil, trivial⟩ ?_
  obtain ⟨x42, hx42, h⟩ := bind_some h
  refine awp_scope (S := (List (Int) × List (Int))) (X := List (Int)) (fun (s_ : (List (Int) × List (Int))) => match s_ with | (l1, l2) => 0) (fun (s_ : (List (Int) × List (Int))) => match s_ with | (l1, l2) => (⟨[(2, (.ptr 2 0)), (5, (Q120 l1)), (6, (.vsl 21 l2.length))], (Q136 a_g l1 l2), []⟩ : St)) _ _ (fun (r_ : List (Int)) (e : Exit) (st : St) => e = .ret ∧ retK Try.prog Try.f13.results.toList [] (AV.list 1 eI64 (0 : Int) r_ (.own 20000)) [(20000, .tok 1 3 r_.length)] e st) ?_ ?_ hx42 ?_
  · clear h hx42
    intro y h
    obtain ⟨x3, hx3, h⟩ := bind_some h
    refine rgs [⟨[], [(20000, 13)], (AV.list 1 eI64 (0 : Int) x3 (.own 20000)), [(20000, .tok 1 3 x3.length)]⟩] [] (⟨[(1, (.int .i64 a_root)), (2, (.ptr 2 0)), (5, (Q119 x3))], [(2, .row 26 (Q116 a_g)), (13, .tok 1 3 x3.length)], []⟩ : St) [(Spec Try.prog 20 [(.agg (eTGraph a_g)), (.int .i64 a_root)] [] (AV.list 1 eI64 (0 : Int) x3 (.own 20000)) [(20000, .tok 1 3 x3.length)])] hn mix (no_hand hΓ) (by kernel_rfl) ⟨(ok_graph_Order a_g a_root x3 hx3), trivial⟩ ?_
    refine awp_seq ?_
    refine rgs0 (⟨[(1, (.int .i64 a_root)), (2, (.ptr 2 0)), (5, (Q119 x3)), (16, (.bool (((x3.length : Int) : Int) == (0 : Int))))], [(2, .row 26 (Q116 a_g)), (13, .tok 1 3 x3.length)], []⟩ : St) hn mix (no_hand hΓ) (by kernel_rfl) ?_
    refine awp_cond (((x3.length : Int) : Int) == (0 : Int)) (by kernel_rfl) (fun hb => ?_) (fun hb => ?_)
    · replace h := cond_t hb h
      clear hb
      refine rgs [] [(4, Q122)] (⟨[(4, Q122)], [], []⟩ : St) [(AVle (.slice 0 0 (fun _ => []) .exact) Q122)] hn mix (no_hand hΓ) (by kernel_rfl) ⟨av_nil, trivial⟩ ?_
      refine awp_le (st' := Q138) (Le.trans (le_restrict_eq (st' := (⟨[(4, Q122)], [], []⟩ : St)) [4] [] (by kernel_rfl) (no_hand hΓ)) (Le.trans (le_tag (t := 4) (nm := 6004) (sz' := 1) (fun i => eI64 (([] : List Int).getD i (0 : Int))) 3 rfl rfl (.inl ⟨rfl, rfl⟩) (fun h_ => absurd h_ (by decide))) (le_restrict_eq (st' := Q138) [4] [6004] (by kernel_rfl) (no_hand hΓ)))) ?_
      refine awp_ret ?_
      refine then_ret ?_
      obtain rfl := Option.some.inj h
      exact ⟨(by intro l hh; cases hh), rfl, ⟨.inl rfl, [(6004, 20000)], by kernel_rfl⟩⟩
    · replace h := cond_f hb h
      clear hb
      refine awp_skip ?_
      refine then_normal ?_
      obtain ⟨x4, hx4, h⟩ := bind_some h
      refine rgs [⟨[], [(20000, 21)], (.vsl 20000 x4.length), [(20000, .arr 1 3 x4.length (fun i => eI64 (x4.getD i (0 : Int))))]⟩] [(17, (AV.list 1 eI64 (0 : Int) ([(-2 : Int)] : List (Int)) .exact))] (⟨[(1, (.int .i64 a_root)), (2, (.ptr 2 0)), (5, (Q119 x3)), (6, (.vsl 21 x4.length))], [(2, .row 26 (Q116 a_g)), (13, .tok 1 3 x3.length), (21, .arr 1 3 x4.length (fun i => eI64 (x4.getD i (0 : Int))))], []⟩ : St) [(AVle (.slice 1 1 (fun i => ([[(.int .i64 (-2 : Int))]] : List (List AV)).getD i []) .exact) (AV.list 1 eI64 (0 : Int) ([(-2 : Int)] : List (Int)) .exact)), (Spec Try.prog 27 [(AV.list 1 eI64 (0 : Int) ([(-2 : Int)] : List (Int)) .none), (.int .i64 (a_g.Succ.length : Int))] [] (.vsl 20000 x4.length) [(20000, .arr 1 3 x4.length (fun i => eI64 (x4.getD i (0 : Int))))])] hn mix (no_hand hΓ) (by kernel_rfl) ⟨(av_lit rfl (fun i hi => map_get (e := eI64) (d := (0 : Int)) ([(-2 : Int)] : List (Int)) i hi)), (ok_slices_Repeat_int_int ([(-2 : Int)] : List (Int)) (a_g.Succ.length : Int) x4 hx4), trivial⟩ ?_
      obtain ⟨hc5, h⟩ := chk_some h
      refine rgs [] [] (⟨[(2, (.ptr 2 0)), (5, (Q119 x3)), (6, (.vsl 21 x4.length))], [(2, .row 26 (Q116 a_g)), (13, .tok 1 3 x3.length), (21, .arr 1 3 x4.length (fun i_ => AV.eraseAll Q137 ((putF (fun i => eI64 (x4.getD i (0 : Int))) (a_root).toNat 0 [(.int .i64 (-1 : Int))]) i_)))], []⟩ : St) [(InB a_root x4.length), (x4.length = x4.length)] hn mix (no_hand hΓ) (by kernel_rfl) ⟨hc5, rfl, trivial⟩ ?_
      refine awp_le (Le.trans (le_of (st' := (⟨[(2, (.ptr 2 0)), (5, (Q119 x3)), (6, (.vsl 21 x4.length))], [(2, .row 26 (Q116 a_g)), (13, .tok 1 3 x3.length), (21, .arr 1 3 x4.length (fun i => eI64 ((Q121 x4 a_root).getD i (0 : Int))))], []⟩ : St)) (TmpsLe.refl _) (.same (.same (.arr (leL_of_eq (List.length_set ..).symm (fun k_ hk_ => (congrArg (AV.eraseAll Q137) ((putF_set (fun _ _ => rfl) (inB_lt0 hc5) rfl) k_ hk_)).trans rfl)) .nil)))) (le_eq (congrArg (fun k_ : Nat => (⟨[(2, (.ptr 2 0)), (5, (Q119 x3)), (6, (.vsl 21 k_))], [(2, .row 26 (Q116 a_g)), (13, .tok 1 3 x3.length), (21, .arr 1 3 k_ (fun i => eI64 ((Q121 x4 a_root).getD i (0 : Int))))], []⟩ : St)) (show x4.length = (Q121 x4 a_root).length from (List.length_set ..).symm)))) ?_
      refine awp_seq ?_
      refine awp_label ?_
      refine then_normal ?_
      refine rgs0 (⟨[(2, (.ptr 2 0)), (5, (Q119 x3)), (6, (.vsl 21 (Q121 x4 a_root).length)), (7, (.bool false))], [(2, .row 26 (Q116 a_g)), (13, .tok 1 3 x3.length), (21, .arr 1 3 ((Q121 x4 a_root).length) (fun i => eI64 ((Q121 x4 a_root).getD i (0 : Int))))], []⟩ : St) hn mix (no_hand hΓ) (by kernel_rfl) ?_
      refine awp_seq ?_
      obtain ⟨hc6, h⟩ := chk_some h
      refine rgs [] [(26, (Q129 x3))] (⟨[(2, (.ptr 2 0)), (5, (Q119 x3)), (6, (.vsl 21 (Q121 x4 a_root).length)), (7, (.bool false)), (26, (Q129 x3)), (27, (Q133 x3)), (28, (.int .i64 (0 : Int)))], [(2, .row 26 (Q116 a_g)), (13, .tok 1 3 x3.length), (21, .arr 1 3 ((Q121 x4 a_root).length) (fun i => eI64 ((Q121 x4 a_root).getD i (0 : Int))))], []⟩ : St) [(0 ≤ (1 : Int) ∧ (1 : Int) ≤ (x3.length : Int)), (AVle (.slice 1 (x3.length - ((1 : Int)).toNat) (fun i => eI64 (x3.getD (((1 : Int)).toNat + i) (0 : Int))) .none) (Q129 x3))] hn mix (no_hand hΓ) (by kernel_rfl) ⟨hc6, av_drop, trivial⟩ ?_
      refine awp_block ?_
      refine awp_le (st' := (fun ((b7, i8, l9) : (Bool × Int × List (Int))) => (⟨[(2, (.ptr 2 0)), (5, (Q119 x3)), (6, (.vsl 21 l9.length)), (7, (.bool b7)), (26, (Q129 x3)), (27, (Q133 x3)), (28, (.int .i64 i8))], (Q134 a_g x3 l9), []⟩ : St)) (false, (0 : Int), (Q121 x4 a_root))) (Le.refl _ _) ?_
      obtain ⟨x22, hx22, h⟩ := bind_some h
      refine awp_loop (fun ((b7, i8, l9) : (Bool × Int × List (Int))) => (⟨[(2, (.ptr 2 0)), (5, (Q119 x3)), (6, (.vsl 21 l9.length)), (7, (.bool b7)), (26, (Q129 x3)), (27, (Q133 x3)), (28, (.int .i64 i8))], (Q134 a_g x3 l9), []⟩ : St)) _ (fun ((b10, l11) : (Bool × List (Int))) (e : Exit) (st : St) => e = (.exit 0) ∧ Le Γ st (⟨[(2, (.ptr 2 0)), (5, (Q119 x3)), (6, (.vsl 21 l11.length)), (7, (.bool b10))], [(2, .row 26 (Q116 a_g)), (13, .tok 1 3 x3.length), (21, .arr 1 3 l11.length (Q125 l11))], []⟩ : St)) ?_ hx22 ?_
      · rintro ⟨b7, i8, l9⟩ y h
        unfold m_dom_Tree_L1 at h
        refine rgs0 (⟨[(2, (.ptr 2 0)), (5, (Q119 x3)), (6, (.vsl 21 l9.length)), (7, (.bool b7)), (26, (Q129 x3)), (27, (Q133 x3)), (28, (.int .i64 i8)), (29, (.bool (decide ((i8 : Int) < ((Q118 x3).length : Int)))))], (Q134 a_g x3 l9), []⟩ : St) hn mix (no_hand hΓ) (by kernel_rfl) ?_
        refine awp_seq ?_
        refine awp_cond (decide ((i8 : Int) < ((Q118 x3).length : Int))) (by kernel_rfl) (fun hb => ?_) (fun hb => ?_)
        · replace h := cond_t hb h
          clear hb
          refine awp_skip ?_
          refine then_normal ?_
          refine awp_seq ?_
          obtain ⟨x20, hx20, h⟩ := bind_some h
          refine awp_join (fun ((b12, l13) : (Bool × List (Int))) (e : Exit) (st : St) => e = .normal ∧ Le Γ st (⟨[(2, (.ptr 2 0)), (5, (Q119 x3)), (6, (.vsl 21 l13.length)), (7, (.bool b12)), (26, (Q129 x3)), (27, (Q133 x3)), (28, (.int .i64 i8))], [(2, .row 26 (Q116 a_g)), (13, .tok 1 3 x3.length), (21, .arr 1 3 l13.length (fun i => eI64 (l13.getD i (0 : Int))))], []⟩ : St)) hx20 ?_ ?_
          · clear h hx20
            intro y h
            refine awp_block ?_
            obtain ⟨hc14, h⟩ := chk_some h
            refine rgs [] [] (⟨[(2, (.ptr 2 0)), (5, (Q119 x3)), (6, (.vsl 21 l9.length)), (7, (.bool b7)), (9, (.int .i64 (Q131 x3 i8))), (26, (Q129 x3)), (27, (Q133 x3)), (28, (.int .i64 i8))], (Q134 a_g x3 l9), []⟩ : St) [(InB i8 (Q118 x3).length)] hn mix (no_hand hΓ) (by kernel_rfl) ⟨hc14, trivial⟩ ?_
            obtain ⟨hc15, h⟩ := chk_some h
            obtain ⟨x16, hx16, h⟩ := bind_some h
            obtain ⟨hc17, h⟩ := chk_some h
            refine rgs [⟨[(21, 34000)], [], (.int .i64 x16.1), [(34000, .arr 1 3 x16.2.length (Q123 x16))]⟩] [] (⟨[(2, (.ptr 2 0)), (5, (Q119 x3)), (6, (.vsl 21 l9.length)), (7, (.bool b7)), (9, (.int .i64 (Q131 x3 i8))), (10, (.int .i64 x16.1)), (26, (Q129 x3)), (27, (Q133 x3)), (28, (.int .i64 i8))], [(2, .row 26 (Q116 a_g)), (13, .tok 1 3 x3.length), (21, .arr 1 3 x16.2.length (Q123 x16))], []⟩ : St) [(InB (Q131 x3 i8) a_g.Pred.length), (Spec Try.prog 28 [(.vsl 34000 l9.length), (AV.list 1 eI64 (0 : Int) (a_g.Pred.getD ((Q131 x3 i8)).toNat []) .none)] [(34000, .arr 1 3 l9.length (fun i => eI64 (l9.getD i (0 : Int))))] (.int .i64 x16.1) [(34000, .arr 1 3 x16.2.length (Q123 x16))])] hn mix (no_hand hΓ) (by kernel_rfl) ⟨hc15, (ok_dom_meetAll_v2 l9 (a_g.Pred.getD ((Q131 x3 i8)).toNat []) x16 hx16), trivial⟩ ?_
            refine awp_le (le_eq (congrArg (fun k_ : Nat => (⟨[(2, (.ptr 2 0)), (5, (Q119 x3)), (6, (.vsl 21 k_)), (7, (.bool b7)), (9, (.int .i64 (Q131 x3 i8))), (10, (.int .i64 x16.1)), (26, (Q129 x3)), (27, (Q133 x3)), (28, (.int .i64 i8))], [(2, .row 26 (Q116 a_g)), (13, .tok 1 3 x3.length), (21, .arr 1 3 x16.2.length (Q123 x16))], []⟩ : St)) (show l9.length = x16.2.length from hc17))) ?_
            obtain ⟨hc18, h⟩ := chk_some h
            refine rgs [] [] (⟨[(2, (.ptr 2 0)), (5, (Q119 x3)), (6, (.vsl 21 x16.2.length)), (7, (.bool b7)), (9, (.int .i64 (Q131 x3 i8))), (10, (.int .i64 x16.1)), (26, (Q129 x3)), (27, (Q133 x3)), (28, (.int .i64 i8)), (44, (.bool ((x16.1 : Int) != (x16.2.getD ((Q131 x3 i8)).toNat (0 : Int)))))], [(2, .row 26 (Q116 a_g)), (13, .tok 1 3 x3.length), (21, .arr 1 3 x16.2.length (Q123 x16))], []⟩ : St) [(InB (Q131 x3 i8) x16.2.length), (x16.2.length = x16.2.length)] hn mix (no_hand hΓ) (by kernel_rfl) ⟨hc18, rfl, trivial⟩ ?_
            refine awp_cond ((x16.1 : Int) != (x16.2.getD ((Q131 x3 i8)).toNat (0 : Int))) (by kernel_rfl) (fun hb => ?_) (fun hb => ?_)
            · replace h := cond_t hb h
              clear hb
              obtain ⟨hc19, h⟩ := chk_some h
              refine rg [] [] (⟨[(2, (.ptr 2 0)), (5, (Q119 x3)), (6, (.vsl 21 x16.2.length)), (7, (.bool true)), (26, (Q129 x3)), (27, (Q133 x3)), (28, (.int .i64 i8))], [(2, .row 26 (Q116 a_g)), (13, .tok 1 3 x3.length), (21, .arr 1 3 x16.2.length (fun i_ => AV.eraseAll Q137 ((putF (Q123 x16) ((Q131 x3 i8)).toNat 0 [(.int .i64 x16.1)]) i_)))], []⟩ : St) [(InB (Q131 x3 i8) x16.2.length), (x16.2.length = x16.2.length)] hn mix (no_hand hΓ) (by kernel_rfl) ⟨hc19, rfl, trivial⟩ ?_
              refine block_normal ?_
              obtain rfl := Option.some.inj h
              exact ⟨rfl, Le.trans (Le.trans (le_of (st' := (⟨[(2, (.ptr 2 0)), (5, (Q119 x3)), (6, (.vsl 21 x16.2.length)), (7, (.bool true)), (26, (Q129 x3)), (27, (Q133 x3)), (28, (.int .i64 i8))], [(2, .row 26 (Q116 a_g)), (13, .tok 1 3 x3.length), (21, .arr 1 3 x16.2.length (fun i => eI64 ((x16.2.set ((Q131 x3 i8)).toNat x16.1).getD i (0 : Int))))], []⟩ : St)) (TmpsLe.refl _) (.same (.same (.arr (leL_of_eq (List.length_set ..).symm (fun k_ hk_ => (congrArg (AV.eraseAll Q137) ((putF_set (fun _ _ => rfl) (inB_lt0 hc19) rfl) k_ hk_)).trans rfl)) .nil)))) (le_eq (congrArg (fun k_ : Nat => (⟨[(2, (.ptr 2 0)), (5, (Q119 x3)), (6, (.vsl 21 k_)), (7, (.bool true)), (26, (Q129 x3)), (27, (Q133 x3)), (28, (.int .i64 i8))], [(2, .row 26 (Q116 a_g)), (13, .tok 1 3 x3.length), (21, .arr 1 3 k_ (fun i => eI64 ((x16.2.set ((Q131 x3 i8)).toNat x16.1).getD i (0 : Int))))], []⟩ : St)) (show x16.2.length = (x16.2.set ((Q131 x3 i8)).toNat x16.1).length from (List.length_set ..).symm)))) (Le.refl _ _)⟩
            · replace h := cond_f hb h
              clear hb
              refine awp_skip ?_
              refine block_normal ?_
              obtain rfl := Option.some.inj h
              exact ⟨rfl, le_restrict_eq [2, 5, 6, 7, 26, 27, 28] [2, 13, 21] (by kernel_rfl) (no_hand hΓ)⟩
          · clear hx20
            rcases x20 with ⟨b12, l13⟩
            rintro e st' ⟨rfl, hl21⟩
            refine then_normal ?_
            refine awp_le hl21 ?_
            refine rg0 (⟨[(2, (.ptr 2 0)), (5, (Q119 x3)), (6, (.vsl 21 l13.length)), (7, (.bool b12)), (26, (Q129 x3)), (27, (Q133 x3)), (28, (.int .i64 (w64 (i8 + (1 : Int)))))], [(2, .row 26 (Q116 a_g)), (13, .tok 1 3 x3.length), (21, .arr 1 3 l13.length (fun i => eI64 (l13.getD i (0 : Int))))], []⟩ : St) hn mix (no_hand hΓ) (by kernel_rfl) ?_
            obtain rfl := Option.some.inj h
            exact ⟨rfl, Le.refl _ _⟩
        · replace h := cond_f hb h
          clear hb
          refine awp_exit ?_
          refine then_exit ?_
          obtain rfl := Option.some.inj h
          exact ⟨(by intro hh; cases hh), rfl, le_restrict_eq [2, 5, 6, 7] [2, 13, 21] (by kernel_rfl) (no_hand hΓ)⟩
      · clear hx22
        rcases x22 with ⟨b10, l11⟩
        rintro e st' ⟨rfl, hl23⟩
        refine block_here ?_
        refine then_normal ?_
        refine awp_le hl23 ?_
        refine awp_seq ?_
        refine rgs0 (⟨[(2, (.ptr 2 0)), (5, (Q119 x3)), (6, (.vsl 21 l11.length)), (50, (.bool b10))], [(2, .row 26 (Q116 a_g)), (13, .tok 1 3 x3.length), (21, .arr 1 3 l11.length (Q125 l11))], []⟩ : St) hn mix (no_hand hΓ) (by kernel_rfl) ?_
        refine awp_cond b10 (by kernel_rfl) (fun hb => ?_) (fun hb => ?_)
        · replace h := cond_t hb h
          clear hb
          refine awp_goto ?_
          refine then_goto ?_
          obtain rfl := Option.some.inj h
          exact ⟨rfl, rfl, le_restrict_eq [2, 5, 6] [2, 13, 21] (by kernel_rfl) (no_hand hΓ)⟩
        · replace h := cond_f hb h
          clear hb
          refine awp_skip ?_
          refine then_normal ?_
          refine rgs0 (⟨[(4, (.vsl 21 l11.length))], [(21, .arr 1 3 l11.length (Q125 l11))], []⟩ : St) hn mix (no_hand hΓ) (by kernel_rfl) ?_
          refine awp_le (Le.trans (le_freeze (nm := 21) (sz := 1) (n := l11.length) (e := 3) (f := (Q125 l11)) (g := (Q125 l11)) rfl ⟨rfl, trivial⟩ (fun _ _ => rfl) (by rw [hΓ]; rfl)) (le_eq (st' := (⟨[(4, (AV.list 1 eI64 (0 : Int) l11 (.own 21)))], [(21, .tok 1 3 l11.length)], []⟩ : St)) (by kernel_rfl))) ?_
          refine awp_ret ?_
          obtain rfl := Option.some.inj h
          exact ⟨(by intro l hh; cases hh), rfl, ⟨.inl rfl, [(21, 20000)], by kernel_rfl⟩⟩
  · clear h hx42
    rintro ⟨l1, l2⟩ y rest hf h
    obtain rfl := Option.some.inj hf
    clear hf
    unfold m_dom_Tree_F3 at h
    refine awp_seq ?_
    refine awp_skip ?_
    refine then_normal ?_
    refine rgs0 (⟨[(2, (.ptr 2 0)), (5, (Q120 l1)), (6, (.vsl 21 l2.length)), (7, (.bool false))], (Q136 a_g l1 l2), []⟩ : St) hn mix (no_hand hΓ) (by kernel_rfl) ?_
    refine awp_seq ?_
    obtain ⟨hc24, h⟩ := chk_some h
    refine rgs [] [(26, (Q128 l1))] (⟨[(2, (.ptr 2 0)), (5, (Q120 l1)), (6, (.vsl 21 l2.length)), (7, (.bool false)), (26, (Q128 l1)), (27, (Q132 l1)), (28, (.int .i64 (0 : Int)))], (Q136 a_g l1 l2), []⟩ : St) [(0 ≤ (1 : Int) ∧ (1 : Int) ≤ (l1.length : Int)), (AVle (.slice 1 (l1.length - ((1 : Int)).toNat) (fun i => eI64 (l1.getD (((1 : Int)).toNat + i) (0 : Int))) .none) (Q128 l1))] hn mix (no_hand hΓ) (by kernel_rfl) ⟨hc24, av_drop, trivial⟩ ?_
    refine awp_block ?_
    refine awp_le (st' := (fun ((b25, i26, l27) : (Bool × Int × List (Int))) => (⟨[(2, (.ptr 2 0)), (5, (Q120 l1)), (6, (.vsl 21 l27.length)), (7, (.bool b25)), (26, (Q128 l1)), (27, (Q132 l1)), (28, (.int .i64 i26))], (Q135 a_g l1 l27), []⟩ : St)) (false, (0 : Int), l2)) (Le.refl _ _) ?_
    obtain ⟨x40, hx40, h⟩ := bind_some h
    refine awp_loop (fun ((b25, i26, l27) : (Bool × Int × List (Int))) => (⟨[(2, (.ptr 2 0)), (5, (Q120 l1)), (6, (.vsl 21 l27.length)), (7, (.bool b25)), (26, (Q128 l1)), (27, (Q132 l1)), (28, (.int .i64 i26))], (Q135 a_g l1 l27), []⟩ : St)) _ (fun ((b28, l29) : (Bool × List (Int))) (e : Exit) (st : St) => e = (.exit 0) ∧ Le Γ st (⟨[(2, (.ptr 2 0)), (5, (Q120 l1)), (6, (.vsl 21 l29.length)), (7, (.bool b28))], [(2, .row 26 (Q116 a_g)), (13, .tok 1 3 l1.length), (21, .arr 1 3 l29.length (Q127 l29))], []⟩ : St)) ?_ hx40 ?_
    · rintro ⟨b25, i26, l27⟩ y h
      unfold m_dom_Tree_L2 at h
      refine rgs0 (⟨[(2, (.ptr 2 0)), (5, (Q120 l1)), (6, (.vsl 21 l27.length)), (7, (.bool b25)), (26, (Q128 l1)), (27, (Q132 l1)), (28, (.int .i64 i26)), (29, (.bool (decide ((i26 : Int) < ((Q117 l1).length : Int)))))], (Q135 a_g l1 l27), []⟩ : St) hn mix (no_hand hΓ) (by kernel_rfl) ?_
      refine awp_seq ?_
      refine awp_cond (decide ((i26 : Int) < ((Q117 l1).length : Int))) (by kernel_rfl) (fun hb => ?_) (fun hb => ?_)
      · replace h := cond_t hb h
        clear hb
        refine awp_skip ?_
        refine then_normal ?_
        refine awp_seq ?_
        obtain ⟨x38, hx38, h⟩ := bind_some h
        refine awp_join (fun ((b30, l31) : (Bool × List (Int))) (e : Exit) (st : St) => e = .normal ∧ Le Γ st (⟨[(2, (.ptr 2 0)), (5, (Q120 l1)), (6, (.vsl 21 l31.length)), (7, (.bool b30)), (26, (Q128 l1)), (27, (Q132 l1)), (28, (.int .i64 i26))], [(2, .row 26 (Q116 a_g)), (13, .tok 1 3 l1.length), (21, .arr 1 3 l31.length (fun i => eI64 (l31.getD i (0 : Int))))], []⟩ : St)) hx38 ?_ ?_
        · clear h hx38
          intro y h
          refine awp_block ?_
          obtain ⟨hc32, h⟩ := chk_some h
          refine rgs [] [] (⟨[(2, (.ptr 2 0)), (5, (Q120 l1)), (6, (.vsl 21 l27.length)), (7, (.bool b25)), (9, (.int .i64 (Q130 l1 i26))), (26, (Q128 l1)), (27, (Q132 l1)), (28, (.int .i64 i26))], (Q135 a_g l1 l27), []⟩ : St) [(InB i26 (Q117 l1).length)] hn mix (no_hand hΓ) (by kernel_rfl) ⟨hc32, trivial⟩ ?_
          obtain ⟨hc33, h⟩ := chk_some h
          obtain ⟨x34, hx34, h⟩ := bind_some h
          obtain ⟨hc35, h⟩ := chk_some h
          refine rgs [⟨[(21, 34000)], [], (.int .i64 x34.1), [(34000, .arr 1 3 x34.2.length (Q124 x34))]⟩] [] (⟨[(2, (.ptr 2 0)), (5, (Q120 l1)), (6, (.vsl 21 l27.length)), (7, (.bool b25)), (9, (.int .i64 (Q130 l1 i26))), (10, (.int .i64 x34.1)), (26, (Q128 l1)), (27, (Q132 l1)), (28, (.int .i64 i26))], [(2, .row 26 (Q116 a_g)), (13, .tok 1 3 l1.length), (21, .arr 1 3 x34.2.length (Q124 x34))], []⟩ : St) [(InB (Q130 l1 i26) a_g.Pred.length), (Spec Try.prog 28 [(.vsl 34000 l27.length), (AV.list 1 eI64 (0 : Int) (a_g.Pred.getD ((Q130 l1 i26)).toNat []) .none)] [(34000, .arr 1 3 l27.length (Q126 l27))] (.int .i64 x34.1) [(34000, .arr 1 3 x34.2.length (Q124 x34))])] hn mix (no_hand hΓ) (by kernel_rfl) ⟨hc33, (ok_dom_meetAll_v2 l27 (a_g.Pred.getD ((Q130 l1 i26)).toNat []) x34 hx34), trivial⟩ ?_
          refine awp_le (le_eq (congrArg (fun k_ : Nat => (⟨[(2, (.ptr 2 0)), (5, (Q120 l1)), (6, (.vsl 21 k_)), (7, (.bool b25)), (9, (.int .i64 (Q130 l1 i26))), (10, (.int .i64 x34.1)), (26, (Q128 l1)), (27, (Q132 l1)), (28, (.int .i64 i26))], [(2, .row 26 (Q116 a_g)), (13, .tok 1 3 l1.length), (21, .arr 1 3 x34.2.length (Q124 x34))], []⟩ : St)) (show l27.length = x34.2.length from hc35))) ?_
          obtain ⟨hc36, h⟩ := chk_some h
          refine rgs [] [] (⟨[(2, (.ptr 2 0)), (5, (Q120 l1)), (6, (.vsl 21 x34.2.length)), (7, (.bool b25)), (9, (.int .i64 (Q130 l1 i26))), (10, (.int .i64 x34.1)), (26, (Q128 l1)), (27, (Q132 l1)), (28, (.int .i64 i26)), (44, (.bool ((x34.1 : Int) != (x34.2.getD ((Q130 l1 i26)).toNat (0 : Int)))))], [(2, .row 26 (Q116 a_g)), (13, .tok 1 3 l1.length), (21, .arr 1 3 x34.2.length (Q124 x34))], []⟩ : St) [(InB (Q130 l1 i26) x34.2.length), (x34.2.length = x34.2.length)] hn mix (no_hand hΓ) (by kernel_rfl) ⟨hc36, rfl, trivial⟩ ?_
          refine awp_cond ((x34.1 : Int) != (x34.2.getD ((Q130 l1 i26)).toNat (0 : Int))) (by kernel_rfl) (fun hb => ?_) (fun hb => ?_)
          · replace h := cond_t hb h
            clear hb
            obtain ⟨hc37, h⟩ := chk_some h
            refine rg [] [] (⟨[(2, (.ptr 2 0)), (5, (Q120 l1)), (6, (.vsl 21 x34.2.length)), (7, (.bool true)), (26, (Q128 l1)), (27, (Q132 l1)), (28, (.int .i64 i26))], [(2, .row 26 (Q116 a_g)), (13, .tok 1 3 l1.length), (21, .arr 1 3 x34.2.length (fun i_ => AV.eraseAll Q137 ((putF (Q124 x34) ((Q130 l1 i26)).toNat 0 [(.int .i64 x34.1)]) i_)))], []⟩ : St) [(InB (Q130 l1 i26) x34.2.length), (x34.2.length = x34.2.length)] hn mix (no_hand hΓ) (by kernel_rfl) ⟨hc37, rfl, trivial⟩ ?_
            refine block_normal ?_
            obtain rfl := Option.some.inj h
            exact ⟨rfl, Le.trans (Le.trans (le_of (st' := (⟨[(2, (.ptr 2 0)), (5, (Q120 l1)), (6, (.vsl 21 x34.2.length)), (7, (.bool true)), (26, (Q128 l1)), (27, (Q132 l1)), (28, (.int .i64 i26))], [(2, .row 26 (Q116 a_g)), (13, .tok 1 3 l1.length), (21, .arr 1 3 x34.2.length (fun i => eI64 ((x34.2.set ((Q130 l1 i26)).toNat x34.1).getD i (0 : Int))))], []⟩ : St)) (TmpsLe.refl _) (.same (.same (.arr (leL_of_eq (List.length_set ..).symm (fun k_ hk_ => (congrArg (AV.eraseAll Q137) ((putF_set (fun _ _ => rfl) (inB_lt0 hc37) rfl) k_ hk_)).trans rfl)) .nil)))) (le_eq (congrArg (fun k_ : Nat => (⟨[(2, (.ptr 2 0)), (5, (Q120 l1)), (6, (.vsl 21 k_)), (7, (.bool true)), (26, (Q128 l1)), (27, (Q132 l1)), (28, (.int .i64 i26))], [(2, .row 26 (Q116 a_g)), (13, .tok 1 3 l1.length), (21, .arr 1 3 k_ (fun i => eI64 ((x34.2.set ((Q130 l1 i26)).toNat x34.1).getD i (0 : Int))))], []⟩ : St)) (show x34.2.length = (x34.2.set ((Q130 l1 i26)).toNat x34.1).length from (List.length_set ..).symm)))) (Le.refl _ _)⟩
          · replace h := cond_f hb h
            clear hb
            refine awp_skip ?_
            refine block_normal ?_
            obtain rfl := Option.some.inj h
            exact ⟨rfl, le_restrict_eq [2, 5, 6, 7, 26, 27, 28] [2, 13, 21] (by kernel_rfl) (no_hand hΓ)⟩
        · clear hx38
          rcases x38 with ⟨b30, l31⟩
          rintro e st' ⟨rfl, hl39⟩
          refine then_normal ?_
          refine awp_le hl39 ?_
          refine rg0 (⟨[(2, (.ptr 2 0)), (5, (Q120 l1)), (6, (.vsl 21 l31.length)), (7, (.bool b30)), (26, (Q128 l1)), (27, (Q132 l1)), (28, (.int .i64 (w64 (i26 + (1 : Int)))))], [(2, .row 26 (Q116 a_g)), (13, .tok 1 3 l1.length), (21, .arr 1 3 l31.length (fun i => eI64 (l31.getD i (0 : Int))))], []⟩ : St) hn mix (no_hand hΓ) (by kernel_rfl) ?_
          obtain rfl := Option.some.inj h
          exact ⟨rfl, Le.refl _ _⟩
      · replace h := cond_f hb h
        clear hb
        refine awp_exit ?_
        refine then_exit ?_
        obtain rfl := Option.some.inj h
        exact ⟨(by intro hh; cases hh), rfl, le_restrict_eq [2, 5, 6, 7] [2, 13, 21] (by kernel_rfl) (no_hand hΓ)⟩
    · clear hx40
      rcases x40 with ⟨b28, l29⟩
      rintro e st' ⟨rfl, hl41⟩
      refine block_here ?_
      refine then_normal ?_
      refine awp_le hl41 ?_
      refine awp_seq ?_
      refine rgs0 (⟨[(2, (.ptr 2 0)), (5, (Q120 l1)), (6, (.vsl 21 l29.length)), (50, (.bool b28))], [(2, .row 26 (Q116 a_g)), (13, .tok 1 3 l1.length), (21, .arr 1 3 l29.length (Q127 l29))], []⟩ : St) hn mix (no_hand hΓ) (by kernel_rfl) ?_
      refine awp_cond b28 (by kernel_rfl) (fun hb => ?_) (fun hb => ?_)
      · replace h := cond_t hb h
        clear hb
        refine awp_goto ?_
        refine then_goto ?_
        obtain rfl := Option.some.inj h
        exact ⟨rfl, rfl, le_restrict_eq [2, 5, 6] [2, 13, 21] (by kernel_rfl) (no_hand hΓ)⟩
      · replace h := cond_f hb h
        clear hb
        refine awp_skip ?_
        refine then_normal ?_
        refine rgs0 (⟨[(4, (.vsl 21 l29.length))], [(21, .arr 1 3 l29.length (Q127 l29))], []⟩ : St) hn mix (no_hand hΓ) (by kernel_rfl) ?_
        refine awp_le (Le.trans (le_freeze (nm := 21) (sz := 1) (n := l29.length) (e := 3) (f := (Q127 l29)) (g := (Q127 l29)) rfl ⟨rfl, trivial⟩ (fun _ _ => rfl) (by rw [hΓ]; rfl)) (le_eq (st' := (⟨[(4, (AV.list 1 eI64 (0 : Int) l29 (.own 21)))], [(21, .tok 1 3 l29.length)], []⟩ : St)) (by kernel_rfl))) ?_
        refine awp_ret ?_
        obtain rfl := Option.some.inj h
        exact ⟨(by intro l hh; cases hh), rfl, ⟨.inl rfl, [(21, 20000)], by kernel_rfl⟩⟩
  · clear hx42
    rintro e st' ⟨rfl, hk⟩
    obtain rfl := Option.some.inj h
    exact hk

noncomputable def m_lockstepref02_Ints_L1 (a_a : List (Int)) (a_b : List (Int)) : Int → Option (LR Int (Unit ⊕ Bool)) :=
  fun (i1 : Int) => (bif (decide ((i1 : Int) < (a_a.length : Int))) then (chk (InB i1 a_a.length) (chk (InB i1 a_b.length) (bif (((a_a.getD (i1).toNat (0 : Int)) : Int) != (a_b.getD (i1).toNat (0 : Int))) then (some (.done (.inr false))) else (some (.next (w64 (i1 + (1 : Int)))))))) else (some (.done (.inl ()))))
noncomputable def Q139 (a_a : List (Int)) : AV := (AV.list 1 eI64 (0 : Int) a_a .none)
noncomputable def Q140 (a_b : List (Int)) : AV := (AV.list 1 eI64 (0 : Int) a_b .none)
noncomputable def m_lockstepref02_Ints (a_a : List (Int)) (a_b : List (Int)) : Option Bool :=
  (bif (((a_a.length : Int) : Int) != (a_b.length : Int)) then (some false) else ((loopO (S := Int) (X := (Unit ⊕ Bool)) (m_lockstepref02_Ints_L1 a_a a_b) (0 : Int)).bind (fun x4 => (match x4 with | (.inl _) => (some true) | (.inr r6) => (some r6)))))
theorem ok_lockstepref02_Ints (a_a : List (Int)) (a_b : List (Int)) (r : Bool) (h : m_lockstepref02_Ints a_a a_b = some r) : Spec Try.prog 12 [(AV.list 1 eI64 (0 : Int) a_a .none), (AV.list 1 eI64 (0 : Int) a_b .none)] [] (.bool r) [] := by
  refine spec_of_awp (fn := Try.f12) Try.func12 rfl rfl (by kernel_rfl) (fun Γ hn hΓ => ?_)
  have hn : Γ.n = 26 := hn
  unfold m_lockstepref02_Ints at h
  refine rgs0 (⟨[(0, (Q139 a_a)), (1, (Q140 a_b))], [], []⟩ : St) hn mix (no_hand hΓ) (by kernel_rfl) ?_
  refine awp_seq ?_
  refine rgs0 (⟨[(0, (Q139 a_a)), (1, (Q140 a_b)), (10, (.bool (((a_a.length : Int) : Int) != (a_b.length : Int))))], [], []⟩ : St) hn mix (no_hand hΓ) (by kernel_rfl) ?_
  refine awp_cond (((a_a.length : Int) : Int) != (a_b.length : Int)) (by kernel_rfl) (fun hb => ?_) (fun hb => ?_)
  · replace h := cond_t hb h
    clear hb
    refine rgs0 (⟨[(4, (.bool false))], [], []⟩ : St) hn mix (no_hand hΓ) (by kernel_rfl) ?_
    refine awp_ret ?_
    refine then_ret ?_
    obtain rfl := Option.some.inj h
    exact ⟨.inl rfl, [], by kernel_rfl⟩
  · replace h := cond_f hb h
    clear hb
    refine awp_skip ?_
    refine then_normal ?_
    refine awp_seq ?_
    refine rgs0 (⟨[(0, (Q139 a_a)), (1, (Q140 a_b)), (5, (.int .i64 (0 : Int)))], [], []⟩ : St) hn mix (no_hand hΓ) (by kernel_rfl) ?_
    refine awp_block ?_
    refine awp_le (st' := (fun (i1 : Int) => (⟨[(0, (Q139 a_a)), (1, (Q140 a_b)), (5, (.int .i64 i1))], [], []⟩ : St)) (0 : Int)) (Le.refl _ _) ?_
    obtain ⟨x4, hx4, h⟩ := bind_some h
    refine awp_loop (fun (i1 : Int) => (⟨[(0, (Q139 a_a)), (1, (Q140 a_b)), (5, (.int .i64 i1))], [], []⟩ : St)) _ (fun (x_ : (Unit ⊕ Bool)) (e : Exit) (st : St) => match x_ with | (.inl _) => e = (.exit 0) ∧ Le Γ st (⟨[], [], []⟩ : St) | (.inr r_) => e = .ret ∧ retK Try.prog Try.f12.results.toList [] (.bool r_) [] e st) ?_ hx4 ?_
    · intro i1 y h
      unfold m_lockstepref02_Ints_L1 at h
      refine awp_seq ?_
      refine rgs0 (⟨[(0, (Q139 a_a)), (1, (Q140 a_b)), (5, (.int .i64 i1)), (14, (.bool (decide ((i1 : Int) < (a_a.length : Int)))))], [], []⟩ : St) hn mix (no_hand hΓ) (by kernel_rfl) ?_
      refine awp_cond (decide ((i1 : Int) < (a_a.length : Int))) (by kernel_rfl) (fun hb => ?_) (fun hb => ?_)
      · replace h := cond_t hb h
        clear hb
        refine awp_skip ?_
        refine then_normal ?_
        refine awp_seq ?_
        refine awp_block ?_
        obtain ⟨hc2, h⟩ := chk_some h
        obtain ⟨hc3, h⟩ := chk_some h
        refine rgs [] [] (⟨[(0, (Q139 a_a)), (1, (Q140 a_b)), (5, (.int .i64 i1)), (25, (.bool (((a_a.getD (i1).toNat (0 : Int)) : Int) != (a_b.getD (i1).toNat (0 : Int)))))], [], []⟩ : St) [(InB i1 a_a.length), (InB i1 a_b.length)] hn mix (no_hand hΓ) (by kernel_rfl) ⟨hc2, hc3, trivial⟩ ?_
        refine awp_cond (((a_a.getD (i1).toNat (0 : Int)) : Int) != (a_b.getD (i1).toNat (0 : Int))) (by kernel_rfl) (fun hb => ?_) (fun hb => ?_)
        · replace h := cond_t hb h
          clear hb
          refine rgs0 (⟨[(4, (.bool false))], [], []⟩ : St) hn mix (no_hand hΓ) (by kernel_rfl) ?_
          refine awp_ret ?_
          refine block_ret ?_
          refine then_ret ?_
          obtain rfl := Option.some.inj h
          exact ⟨(by intro hh; cases hh), rfl, ⟨.inl rfl, [], by kernel_rfl⟩⟩
        · replace h := cond_f hb h
          clear hb
          refine awp_skip ?_
          refine block_normal ?_
          refine then_normal ?_
          refine rg0 (⟨[(0, (Q139 a_a)), (1, (Q140 a_b)), (5, (.int .i64 (w64 (i1 + (1 : Int)))))], [], []⟩ : St) hn mix (no_hand hΓ) (by kernel_rfl) ?_
          obtain rfl := Option.some.inj h
          exact ⟨rfl, Le.refl _ _⟩
      · replace h := cond_f hb h
        clear hb
        refine awp_exit ?_
        refine then_exit ?_
        obtain rfl := Option.some.inj h
        exact ⟨(by intro hh; cases hh), rfl, le_restrict_eq [] [] (by kernel_rfl) (no_hand hΓ)⟩
    · clear hx4
      rcases x4 with _ | r6
      · rintro e st' ⟨rfl, hl5⟩
        refine block_here ?_
        refine then_normal ?_
        refine awp_le hl5 ?_
        refine rgs0 (⟨[(4, (.bool true))], [], []⟩ : St) hn mix (no_hand hΓ) (by kernel_rfl) ?_
        refine awp_ret ?_
        obtain rfl := Option.some.inj h
        exact ⟨.inl rfl, [], by kernel_rfl⟩
      · rintro e st' ⟨rfl, hk⟩
        refine block_ret ?_
        refine then_ret ?_
        obtain rfl := Option.some.inj h
        exact hk

noncomputable def m_slices_Index_int_int_L1 (a_s : List (Int)) (a_v : Int) : Int → Option (LR Int (Unit ⊕ Int)) :=
  fun (i1 : Int) => (bif (decide ((i1 : Int) < (a_s.length : Int))) then (chk (InB i1 a_s.length) (bif ((a_v : Int) == (a_s.getD (i1).toNat (0 : Int))) then (some (.done (.inr i1))) else (some (.next (w64 (i1 + (1 : Int))))))) else (some (.done (.inl ()))))
noncomputable def Q142 (a_s : List (Int)) : AV := (.int .i64 (a_s.length : Int))
noncomputable def Q141 (a_s : List (Int)) : AV := (AV.list 1 eI64 (0 : Int) a_s .none)
noncomputable def m_slices_Index_int_int (a_s : List (Int)) (a_v : Int) : Option Int :=
  ((loopO (S := Int) (X := (Unit ⊕ Int)) (m_slices_Index_int_int_L1 a_s a_v) (0 : Int)).bind (fun x3 => (match x3 with | (.inl _) => (some (-1 : Int)) | (.inr r5) => (some r5))))
theorem ok_slices_Index_int_int (a_s : List (Int)) (a_v : Int) (r : Int) (h : m_slices_Index_int_int a_s a_v = some r) : Spec Try.prog 48 [(AV.list 1 eI64 (0 : Int) a_s .none), (.int .i64 a_v)] [] (.int .i64 r) [] := by
  refine spec_of_awp (fn := Try.f48) Try.func48 rfl rfl (by kernel_rfl) (fun Γ hn hΓ => ?_)
  have hn : Γ.n = 19 := hn
  unfold m_slices_Index_int_int at h
  refine rgs0 (⟨[(0, (Q141 a_s)), (1, (.int .i64 a_v))], [], []⟩ : St) hn mix (no_hand hΓ) (by kernel_rfl) ?_
  refine awp_seq ?_
  refine rgs0 (⟨[(0, (Q141 a_s)), (1, (.int .i64 a_v)), (7, (Q142 a_s)), (8, (.int .i64 (0 : Int)))], [], []⟩ : St) hn mix (no_hand hΓ) (by kernel_rfl) ?_
  refine awp_block ?_
  refine awp_le (st' := (fun (i1 : Int) => (⟨[(0, (Q141 a_s)), (1, (.int .i64 a_v)), (7, (Q142 a_s)), (8, (.int .i64 i1))], [], []⟩ : St)) (0 : Int)) (Le.refl _ _) ?_
  obtain ⟨x3, hx3, h⟩ := bind_some h
  refine awp_loop (fun (i1 : Int) => (⟨[(0, (Q141 a_s)), (1, (.int .i64 a_v)), (7, (Q142 a_s)), (8, (.int .i64 i1))], [], []⟩ : St)) _ (fun (x_ : (Unit ⊕ Int)) (e : Exit) (st : St) => match x_ with | (.inl _) => e = (.exit 0) ∧ Le Γ st (⟨[], [], []⟩ : St) | (.inr r_) => e = .ret ∧ retK Try.prog Try.f48.results.toList [] (.int .i64 r_) [] e st) ?_ hx3 ?_
  · intro i1 y h
    unfold m_slices_Index_int_int_L1 at h
    refine rgs0 (⟨[(0, (Q141 a_s)), (1, (.int .i64 a_v)), (7, (Q142 a_s)), (8, (.int .i64 i1)), (9, (.bool (decide ((i1 : Int) < (a_s.length : Int)))))], [], []⟩ : St) hn mix (no_hand hΓ) (by kernel_rfl) ?_
    refine awp_seq ?_
    refine awp_cond (decide ((i1 : Int) < (a_s.length : Int))) (by kernel_rfl) (fun hb => ?_) (fun hb => ?_)
    · replace h := cond_t hb h
      clear hb
      refine awp_skip ?_
      refine then_normal ?_
      refine awp_seq ?_
      refine awp_block ?_
      refine rgs0 (⟨[(0, (Q141 a_s)), (1, (.int .i64 a_v)), (5, (.int .i64 i1)), (7, (Q142 a_s)), (8, (.int .i64 i1))], [], []⟩ : St) hn mix (no_hand hΓ) (by kernel_rfl) ?_
      obtain ⟨hc2, h⟩ := chk_some h
      refine rgs [] [] (⟨[(0, (Q141 a_s)), (1, (.int .i64 a_v)), (5, (.int .i64 i1)), (7, (Q142 a_s)), (8, (.int .i64 i1)), (16, (.bool ((a_v : Int) == (a_s.getD (i1).toNat (0 : Int)))))], [], []⟩ : St) [(InB i1 a_s.length)] hn mix (no_hand hΓ) (by kernel_rfl) ⟨hc2, trivial⟩ ?_
      refine awp_cond ((a_v : Int) == (a_s.getD (i1).toNat (0 : Int))) (by kernel_rfl) (fun hb => ?_) (fun hb => ?_)
      · replace h := cond_t hb h
        clear hb
        refine rgs0 (⟨[(4, (.int .i64 i1))], [], []⟩ : St) hn mix (no_hand hΓ) (by kernel_rfl) ?_
        refine awp_ret ?_
        refine block_ret ?_
        refine then_ret ?_
        obtain rfl := Option.some.inj h
        exact ⟨(by intro hh; cases hh), rfl, ⟨.inl rfl, [], by kernel_rfl⟩⟩
      · replace h := cond_f hb h
        clear hb
        refine awp_skip ?_
        refine block_normal ?_
        refine then_normal ?_
        refine rg0 (⟨[(0, (Q141 a_s)), (1, (.int .i64 a_v)), (7, (Q142 a_s)), (8, (.int .i64 (w64 (i1 + (1 : Int)))))], [], []⟩ : St) hn mix (no_hand hΓ) (by kernel_rfl) ?_
        obtain rfl := Option.some.inj h
        exact ⟨rfl, Le.refl _ _⟩
    · replace h := cond_f hb h
      clear hb
      refine awp_exit ?_
      refine then_exit ?_
      obtain rfl := Option.some.inj h
      exact ⟨(by intro hh; cases hh), rfl, le_restrict_eq [] [] (by kernel_rfl) (no_hand hΓ)⟩
  · clear hx3
    rcases x3 with _ | r5
    · rintro e st' ⟨rfl, hl4⟩
      refine block_here ?_
      refine then_normal ?_
      refine awp_le hl4 ?_
      refine rgs0 (⟨[(4, (.int .i64 (-1 : Int)))], [], []⟩ : St) hn mix (no_hand hΓ) (by kernel_rfl) ?_
      refine awp_ret ?_
      obtain rfl := Option.some.inj h
      exact ⟨.inl rfl, [], by kernel_rfl⟩
    · rintro e st' ⟨rfl, hk⟩
      refine block_ret ?_
      refine then_ret ?_
      obtain rfl := Option.some.inj h
      exact hk

noncomputable def Q143 (a_at : Int) := ((decide (((0 : Int) : Int) ≤ a_at)) == true)
noncomputable def m_dom_isPlace (a_tree : List (Int)) (a_at : Int) : Option Bool :=
  (some (bif (decide (((0 : Int) : Int) ≤ a_at)) then (decide ((a_at : Int) < (a_tree.length : Int))) else false))
theorem ok_dom_isPlace (a_tree : List (Int)) (a_at : Int) (r : Bool) (h : m_dom_isPlace a_tree a_at = some r) : Spec Try.prog 50 [(AV.list 1 eI64 (0 : Int) a_tree .none), (.int .i64 a_at)] [] (.bool r) [] := by
  refine spec_of_awp (fn := Try.f50) Try.func50 rfl rfl (by kernel_rfl) (fun Γ hn hΓ => ?_)
  have hn : Γ.n = 13 := hn
  unfold m_dom_isPlace at h
  refine rgs0 (⟨[(0, (AV.list 1 eI64 (0 : Int) a_tree .none)), (1, (.int .i64 a_at))], [], []⟩ : St) hn mix (no_hand hΓ) (by kernel_rfl) ?_
  refine rgs [] [] (⟨[(4, (.bool (bif (decide (((0 : Int) : Int) ≤ a_at)) then (decide ((a_at : Int) < (a_tree.length : Int))) else false)))], [], []⟩ : St) [((Q143 a_at) = true → (Q143 a_at) = true), ((Q143 a_at) = true → (Q143 a_at) = true), ((Q143 a_at) = true → (Q143 a_at) = true), ((decide (((0 : Int) : Int) ≤ a_at)) = true → (Q143 a_at) = true)] hn mix (no_hand hΓ) (by kernel_rfl) ⟨(fun hg => hg), (fun hg => hg), (fun hg => hg), gT, trivial⟩ ?_
  refine awp_ret ?_
  obtain rfl := Option.some.inj h
  exact ⟨.inl rfl, [], by kernel_rfl⟩

noncomputable def m_dom_leads_L1 (a_tree : List (Int)) (a_from : Int) (a_root : Int) : (Int × List (Int)) → Option (LR (Int × List (Int)) (List (Int) ⊕ (Bool × List (Int)))) :=
  fun ((i1, l2) : (Int × List (Int))) => (bif ((i1 : Int) != a_root) then (chk (InB i1 l2.length) (bif (((l2.getD (i1).toNat (0 : Int)) : Int) != (0 : Int)) then (chk (InB i1 l2.length) (some (.done (.inr ((((l2.getD (i1).toNat (0 : Int)) : Int) != (w64 (a_from + (1 : Int)))), l2))))) else (chk (InB i1 a_tree.length) ((m_dom_isPlace a_tree (a_tree.getD (i1).toNat (0 : Int))).bind fun x7 => (bif (!x7) then (some (.done (.inr (false, l2)))) else (chk (InB i1 l2.length) (chk (InB i1 a_tree.length) (some (.next ((a_tree.getD (i1).toNat (0 : Int)), (l2.set (i1).toNat (w64 (a_from + (1 : Int)))))))))))))) else (some (.done (.inl l2))))
noncomputable def Q149 (a_from : Int) : AV := (.int .i64 (w64 (a_from + (1 : Int))))
noncomputable def Q148 (a_tree : List (Int)) : AV := (AV.list 1 eI64 (0 : Int) a_tree .none)
noncomputable def Q147 (l2 : List (Int)) (i1 : Int) (a_from : Int) := (l2.set (i1).toNat (w64 (a_from + (1 : Int))))
noncomputable def Q145 (l2 : List (Int)) : List (Nat × Own) := [(34001, .arr 1 3 l2.length (fun i => eI64 (l2.getD i (0 : Int))))]
noncomputable def Q146 (a_walks : List (Int)) : List (Nat × Own) := [(34001, .arr 1 3 a_walks.length (fun i => eI64 (a_walks.getD i (0 : Int))))]
noncomputable def Q144 (a_tree : List (Int)) (l2 : List (Int)) (a_root : Int) (a_from : Int) (i1 : Int) : List (Nat × AV) := [(0, (Q148 a_tree)), (1, (.vsl 34001 l2.length)), (3, (.int .i64 a_root)), (9, (Q149 a_from)), (10, (.int .i64 i1))]
noncomputable def m_dom_leads (a_tree : List (Int)) (a_walks : List (Int)) (a_from : Int) (a_root : Int) : Option (Bool × List (Int)) :=
  ((loopO (S := (Int × List (Int))) (X := (List (Int) ⊕ (Bool × List (Int)))) (m_dom_leads_L1 a_tree a_from a_root) (a_from, a_walks)).bind (fun x10 => (match x10 with | (.inl l3) => (some (true, l3)) | (.inr r12) => (some r12))))
theorem ok_dom_leads (a_tree : List (Int)) (a_walks : List (Int)) (a_from : Int) (a_root : Int) (r : (Bool × List (Int))) (h : m_dom_leads a_tree a_walks a_from a_root = some r) : Spec Try.prog 49 [(AV.list 1 eI64 (0 : Int) a_tree .none), (.vsl 34001 a_walks.length), (.int .i64 a_from), (.int .i64 a_root)] [(34001, .arr 1 3 a_walks.length (fun i => eI64 (a_walks.getD i (0 : Int))))] (.bool r.1) [(34001, .arr 1 3 r.2.length (fun i => eI64 (r.2.getD i (0 : Int))))] := by
  refine spec_of_awp (fn := Try.f49) Try.func49 rfl rfl (by kernel_rfl) (fun Γ hn hΓ => ?_)
  have hn : Γ.n = 43 := hn
  unfold m_dom_leads at h
  refine rgs0 (⟨[(0, (Q148 a_tree)), (1, (.vsl 34001 a_walks.length)), (2, (.int .i64 a_from)), (3, (.int .i64 a_root))], (Q146 a_walks), []⟩ : St) hn mix (hand_in hΓ rfl) (by kernel_rfl) ?_
  refine rgs0 (⟨[(0, (Q148 a_tree)), (1, (.vsl 34001 a_walks.length)), (2, (.int .i64 a_from)), (3, (.int .i64 a_root)), (9, (Q149 a_from))], (Q146 a_walks), []⟩ : St) hn mix (hand_in hΓ rfl) (by kernel_rfl) ?_
  refine awp_seq ?_
  refine rgs0 (⟨[(0, (Q148 a_tree)), (1, (.vsl 34001 a_walks.length)), (3, (.int .i64 a_root)), (9, (Q149 a_from)), (10, (.int .i64 a_from))], (Q146 a_walks), []⟩ : St) hn mix (hand_in hΓ rfl) (by kernel_rfl) ?_
  refine awp_block ?_
  refine awp_le (st' := (fun ((i1, l2) : (Int × List (Int))) => (⟨(Q144 a_tree l2 a_root a_from i1), (Q145 l2), []⟩ : St)) (a_from, a_walks)) (Le.refl _ _) ?_
  obtain ⟨x10, hx10, h⟩ := bind_some h
  refine awp_loop (fun ((i1, l2) : (Int × List (Int))) => (⟨(Q144 a_tree l2 a_root a_from i1), (Q145 l2), []⟩ : St)) _ (fun (x_ : (List (Int) ⊕ (Bool × List (Int)))) (e : Exit) (st : St) => match x_ with | (.inl l3) => e = (.exit 0) ∧ Le Γ st (⟨[], [(34001, .arr 1 3 l3.length (fun i => eI64 (l3.getD i (0 : Int))))], []⟩ : St) | (.inr r_) => e = .ret ∧ retK Try.prog Try.f49.results.toList (Q146 a_walks) (.bool r_.1) [(34001, .arr 1 3 r_.2.length (fun i => eI64 (r_.2.getD i (0 : Int))))] e st) ?_ hx10 ?_
  · rintro ⟨i1, l2⟩ y h
    unfold m_dom_leads_L1 at h
    refine awp_seq ?_
    refine rgs0 (⟨[(0, (Q148 a_tree)), (1, (.vsl 34001 l2.length)), (3, (.int .i64 a_root)), (9, (Q149 a_from)), (10, (.int .i64 i1)), (16, (.bool ((i1 : Int) != a_root)))], (Q145 l2), []⟩ : St) hn mix (hand_in hΓ rfl) (by kernel_rfl) ?_
    refine awp_cond ((i1 : Int) != a_root) (by kernel_rfl) (fun hb => ?_) (fun hb => ?_)
    · replace h := cond_t hb h
      clear hb
      refine awp_skip ?_
      refine then_normal ?_
      refine awp_seq ?_
      refine awp_block ?_
      refine awp_seq ?_
      obtain ⟨hc4, h⟩ := chk_some h
      refine rgs [] [] (⟨[(0, (Q148 a_tree)), (1, (.vsl 34001 l2.length)), (3, (.int .i64 a_root)), (9, (Q149 a_from)), (10, (.int .i64 i1)), (25, (.bool (((l2.getD (i1).toNat (0 : Int)) : Int) != (0 : Int))))], (Q145 l2), []⟩ : St) [(InB i1 l2.length), (l2.length = l2.length)] hn mix (hand_in hΓ rfl) (by kernel_rfl) ⟨hc4, rfl, trivial⟩ ?_
      refine awp_cond (((l2.getD (i1).toNat (0 : Int)) : Int) != (0 : Int)) (by kernel_rfl) (fun hb => ?_) (fun hb => ?_)
      · replace h := cond_t hb h
        clear hb
        obtain ⟨hc5, h⟩ := chk_some h
        refine rgs [] [] (⟨[(8, (.bool (((l2.getD (i1).toNat (0 : Int)) : Int) != (w64 (a_from + (1 : Int))))))], (Q145 l2), []⟩ : St) [(InB i1 l2.length), (l2.length = l2.length)] hn mix (hand_in hΓ rfl) (by kernel_rfl) ⟨hc5, rfl, trivial⟩ ?_
        refine awp_ret ?_
        refine then_ret ?_
        refine block_ret ?_
        refine then_ret ?_
        obtain rfl := Option.some.inj h
        exact ⟨(by intro hh; cases hh), rfl, ⟨.inl rfl, [(34001, 34001)], by kernel_rfl⟩⟩
      · replace h := cond_f hb h
        clear hb
        refine awp_skip ?_
        refine then_normal ?_
        refine awp_seq ?_
        obtain ⟨hc6, h⟩ := chk_some h
        obtain ⟨x7, hx7, h⟩ := bind_some h
        refine rgs [⟨[], [], (.bool x7), []⟩] [] (⟨[(0, (Q148 a_tree)), (1, (.vsl 34001 l2.length)), (3, (.int .i64 a_root)), (9, (Q149 a_from)), (10, (.int .i64 i1)), (38, (.bool (!x7)))], (Q145 l2), []⟩ : St) [(InB i1 a_tree.length), (Spec Try.prog 50 [(Q148 a_tree), (.int .i64 (a_tree.getD (i1).toNat (0 : Int)))] [] (.bool x7) [])] hn mix (hand_in hΓ rfl) (by kernel_rfl) ⟨hc6, (ok_dom_isPlace a_tree (a_tree.getD (i1).toNat (0 : Int)) x7 hx7), trivial⟩ ?_
        refine awp_cond (!x7) (by kernel_rfl) (fun hb => ?_) (fun hb => ?_)
        · replace h := cond_t hb h
          clear hb
          refine rgs0 (⟨[(8, (.bool false))], (Q145 l2), []⟩ : St) hn mix (hand_in hΓ rfl) (by kernel_rfl) ?_
          refine awp_ret ?_
          refine then_ret ?_
          refine block_ret ?_
          refine then_ret ?_
          obtain rfl := Option.some.inj h
          exact ⟨(by intro hh; cases hh), rfl, ⟨.inl rfl, [(34001, 34001)], by kernel_rfl⟩⟩
        · replace h := cond_f hb h
          clear hb
          refine awp_skip ?_
          refine then_normal ?_
          obtain ⟨hc8, h⟩ := chk_some h
          refine rg [] [] (⟨(Q144 a_tree l2 a_root a_from i1), [(34001, .arr 1 3 l2.length (fun i_ => AV.eraseAll (fun n_ => memB n_ [34001]) ((putF (fun i => eI64 (l2.getD i (0 : Int))) (i1).toNat 0 [(Q149 a_from)]) i_)))], []⟩ : St) [(InB i1 l2.length), (l2.length = l2.length)] hn mix (hand_in hΓ rfl) (by kernel_rfl) ⟨hc8, rfl, trivial⟩ ?_
          refine block_normal ?_
          refine then_normal ?_
          refine awp_le (Le.trans (le_of (st' := (⟨(Q144 a_tree l2 a_root a_from i1), [(34001, .arr 1 3 l2.length (fun i => eI64 ((Q147 l2 i1 a_from).getD i (0 : Int))))], []⟩ : St)) (TmpsLe.refl _) (.arr (leL_of_eq (List.length_set ..).symm (fun k_ hk_ => (congrArg (AV.eraseAll (fun n_ => memB n_ [34001])) ((putF_set (fun _ _ => rfl) (inB_lt0 hc8) rfl) k_ hk_)).trans rfl)) .nil)) (le_eq (congrArg (fun k_ : Nat => (⟨[(0, (Q148 a_tree)), (1, (.vsl 34001 k_)), (3, (.int .i64 a_root)), (9, (Q149 a_from)), (10, (.int .i64 i1))], [(34001, .arr 1 3 k_ (fun i => eI64 ((Q147 l2 i1 a_from).getD i (0 : Int))))], []⟩ : St)) (show l2.length = (Q147 l2 i1 a_from).length from (List.length_set ..).symm)))) ?_
          obtain ⟨hc9, h⟩ := chk_some h
          refine rg [] [] (⟨[(0, (Q148 a_tree)), (1, (.vsl 34001 (Q147 l2 i1 a_from).length)), (3, (.int .i64 a_root)), (9, (Q149 a_from)), (10, (.int .i64 (a_tree.getD (i1).toNat (0 : Int))))], [(34001, .arr 1 3 ((Q147 l2 i1 a_from).length) (fun i => eI64 ((Q147 l2 i1 a_from).getD i (0 : Int))))], []⟩ : St) [(InB i1 a_tree.length)] hn mix (hand_in hΓ rfl) (by kernel_rfl) ⟨hc9, trivial⟩ ?_
          obtain rfl := Option.some.inj h
          exact ⟨rfl, Le.refl _ _⟩
    · replace h := cond_f hb h
      clear hb
      refine awp_exit ?_
      refine then_exit ?_
      obtain rfl := Option.some.inj h
      exact ⟨(by intro hh; cases hh), rfl, le_restrict_eq [] [34001] (by kernel_rfl) (hand_in hΓ rfl)⟩
  · clear hx10
    rcases x10 with l3 | r12
    · rintro e st' ⟨rfl, hl11⟩
      refine block_here ?_
      refine then_normal ?_
      refine awp_le hl11 ?_
      refine rgs0 (⟨[(8, (.bool true))], [(34001, .arr 1 3 l3.length (fun i => eI64 (l3.getD i (0 : Int))))], []⟩ : St) hn mix (hand_in hΓ rfl) (by kernel_rfl) ?_
      refine awp_ret ?_
      obtain rfl := Option.some.inj h
      exact ⟨.inl rfl, [(34001, 34001)], by kernel_rfl⟩
    · rintro e st' ⟨rfl, hk⟩
      refine block_ret ?_
      refine then_ret ?_
      obtain rfl := Option.some.inj h
      exact hk

noncomputable def m_dom_isTree_L1 (a_tree : List (Int)) (x1 : Int) : (Int × List (Int)) → Option (LR (Int × List (Int)) (Unit ⊕ Bool)) :=
  fun ((i3, l4) : (Int × List (Int))) => (bif (decide ((i3 : Int) < (a_tree.length : Int))) then (chk (InB i3 a_tree.length) ((bif ((((a_tree.getD (i3).toNat (0 : Int)) : Int) != (-2 : Int)) == true) then m_dom_leads a_tree l4 i3 x1 else some (false, [])).bind fun x6 => (chk (((((a_tree.getD (i3).toNat (0 : Int)) : Int) != (-2 : Int)) == true) = true → (l4.length = x6.2.length)) (bif (bif (((a_tree.getD (i3).toNat (0 : Int)) : Int) != (-2 : Int)) then (!x6.1) else false) then (some (.done (.inr false))) else (some (.next ((w64 (i3 + (1 : Int))), (bif ((((a_tree.getD (i3).toNat (0 : Int)) : Int) != (-2 : Int)) == true) then x6.2 else l4)))))))) else (some (.done (.inl ()))))
noncomputable def Q152 (a_tree : List (Int)) := (a_tree.length : Int)
noncomputable def Q150 (a_tree : List (Int)) (i3 : Int) := (((a_tree.getD (i3).toNat (0 : Int)) : Int) != (-2 : Int))
noncomputable def Q154 (a_tree : List (Int)) (i3 : Int) := ((Q150 a_tree i3) == true)
noncomputable def Q151 (a_tree : List (Int)) : AV := (AV.list 1 eI64 (0 : Int) a_tree .none)
noncomputable def Q156 (a_tree : List (Int)) := (List.replicate ((Q152 a_tree)).toNat (0 : Int))
noncomputable def Q153 (l4 : List (Int)) : List (Nat × Own) := [(12, .arr 1 3 l4.length (fun i => eI64 (l4.getD i (0 : Int))))]
noncomputable def Q155 (a_tree : List (Int)) (x1 : Int) (l4 : List (Int)) (i3 : Int) (x6 : (Bool × List (Int))) : List (Nat × AV) := [(0, (Q151 a_tree)), (3, (.int .i64 x1)), (4, (.vsl 12 l4.length)), (14, (.int .i64 (Q152 a_tree))), (15, (.int .i64 i3)), (30, (.bool (bif (Q150 a_tree i3) then (!x6.1) else false)))]
noncomputable def m_dom_isTree (a_tree : List (Int)) : Option Bool :=
  ((m_slices_Index_int_int a_tree (-1 : Int)).bind fun x1 => (bif (decide ((x1 : Int) < (0 : Int))) then (some false) else (chk (0 ≤ (a_tree.length : Int) ∧ (a_tree.length : Int) ≤ (a_tree.length : Int) ∧ (a_tree.length : Int) ≤ (room : Int)) ((loopO (S := (Int × List (Int))) (X := (Unit ⊕ Bool)) (m_dom_isTree_L1 a_tree x1) ((0 : Int), (List.replicate ((a_tree.length : Int)).toNat (0 : Int)))).bind (fun x8 => (match x8 with | (.inl _) => (some true) | (.inr r10) => (some r10)))))))
theorem ok_dom_isTree (a_tree : List (Int)) (r : Bool) (h : m_dom_isTree a_tree = some r) : Spec Try.prog 42 [(AV.list 1 eI64 (0 : Int) a_tree .none)] [] (.bool r) [] := by
  refine spec_of_awp (fn := Try.f42) Try.func42 rfl rfl (by kernel_rfl) (fun Γ hn hΓ => ?_)
  have hn : Γ.n = 32 := hn
  unfold m_dom_isTree at h
  refine rgs0 (⟨[(0, (Q151 a_tree))], [], []⟩ : St) hn mix (no_hand hΓ) (by kernel_rfl) ?_
  obtain ⟨x1, hx1, h⟩ := bind_some h
  refine rgs [⟨[], [], (.int .i64 x1), []⟩] [] (⟨[(0, (Q151 a_tree)), (3, (.int .i64 x1))], [], []⟩ : St) [(Spec Try.prog 48 [(Q151 a_tree), (.int .i64 (-1 : Int))] [] (.int .i64 x1) [])] hn mix (no_hand hΓ) (by kernel_rfl) ⟨(ok_slices_Index_int_int a_tree (-1 : Int) x1 hx1), trivial⟩ ?_
  refine awp_seq ?_
  refine rgs0 (⟨[(0, (Q151 a_tree)), (3, (.int .i64 x1)), (9, (.bool (decide ((x1 : Int) < (0 : Int)))))], [], []⟩ : St) hn mix (no_hand hΓ) (by kernel_rfl) ?_
  refine awp_cond (decide ((x1 : Int) < (0 : Int))) (by kernel_rfl) (fun hb => ?_) (fun hb => ?_)
  · replace h := cond_t hb h
    clear hb
    refine rgs0 (⟨[(2, (.bool false))], [], []⟩ : St) hn mix (no_hand hΓ) (by kernel_rfl) ?_
    refine awp_ret ?_
    refine then_ret ?_
    obtain rfl := Option.some.inj h
    exact ⟨.inl rfl, [], by kernel_rfl⟩
  · replace h := cond_f hb h
    clear hb
    refine awp_skip ?_
    refine then_normal ?_
    obtain ⟨hc2, h⟩ := chk_some h
    refine rgs [] [] (⟨[(0, (Q151 a_tree)), (3, (.int .i64 x1)), (4, (.vsl 12 ((Q152 a_tree)).toNat))], [(12, .arr 1 3 (((Q152 a_tree)).toNat) (fun i_ => AV.eraseAll (fun n_ => memB n_ [12]) ((fun _ => [(.int .i64 (0 : Int))]) i_)))], []⟩ : St) [(0 ≤ (Q152 a_tree) ∧ (Q152 a_tree) ≤ (Q152 a_tree) ∧ (Q152 a_tree) ≤ (room : Int))] hn mix (no_hand hΓ) (by kernel_rfl) ⟨hc2, trivial⟩ ?_
    refine awp_le (Le.trans (le_of (st' := (⟨[(0, (Q151 a_tree)), (3, (.int .i64 x1)), (4, (.vsl 12 ((Q152 a_tree)).toNat))], [(12, .arr 1 3 (((Q152 a_tree)).toNat) (fun i => eI64 ((Q156 a_tree).getD i (0 : Int))))], []⟩ : St)) (TmpsLe.refl _) (.arr (fun k hk => make_le (e := eI64) (d := (0 : Int)) (.cons (AVle.refl _) .nil) _ k (repl_lt hk)) .nil)) (le_eq (congrArg (fun k_ : Nat => (⟨[(0, (Q151 a_tree)), (3, (.int .i64 x1)), (4, (.vsl 12 k_))], [(12, .arr 1 3 k_ (fun i => eI64 ((Q156 a_tree).getD i (0 : Int))))], []⟩ : St)) (show ((Q152 a_tree)).toNat = (Q156 a_tree).length from (List.length_replicate ..).symm)))) ?_
    refine awp_seq ?_
    refine rgs0 (⟨[(0, (Q151 a_tree)), (3, (.int .i64 x1)), (4, (.vsl 12 (Q156 a_tree).length)), (14, (.int .i64 (Q152 a_tree))), (15, (.int .i64 (0 : Int)))], [(12, .arr 1 3 ((Q156 a_tree).length) (fun i => eI64 ((Q156 a_tree).getD i (0 : Int))))], []⟩ : St) hn mix (no_hand hΓ) (by kernel_rfl) ?_
    refine awp_block ?_
    refine awp_le (st' := (fun ((i3, l4) : (Int × List (Int))) => (⟨[(0, (Q151 a_tree)), (3, (.int .i64 x1)), (4, (.vsl 12 l4.length)), (14, (.int .i64 (Q152 a_tree))), (15, (.int .i64 i3))], (Q153 l4), []⟩ : St)) ((0 : Int), (Q156 a_tree))) (Le.refl _ _) ?_
    obtain ⟨x8, hx8, h⟩ := bind_some h
    refine awp_loop (fun ((i3, l4) : (Int × List (Int))) => (⟨[(0, (Q151 a_tree)), (3, (.int .i64 x1)), (4, (.vsl 12 l4.length)), (14, (.int .i64 (Q152 a_tree))), (15, (.int .i64 i3))], (Q153 l4), []⟩ : St)) _ (fun (x_ : (Unit ⊕ Bool)) (e : Exit) (st : St) => match x_ with | (.inl _) => e = (.exit 0) ∧ Le Γ st (⟨[], [], []⟩ : St) | (.inr r_) => e = .ret ∧ retK Try.prog Try.f42.results.toList [] (.bool r_) [] e st) ?_ hx8 ?_
    · rintro ⟨i3, l4⟩ y h
      unfold m_dom_isTree_L1 at h
      refine rgs0 (⟨[(0, (Q151 a_tree)), (3, (.int .i64 x1)), (4, (.vsl 12 l4.length)), (14, (.int .i64 (Q152 a_tree))), (15, (.int .i64 i3)), (16, (.bool (decide ((i3 : Int) < (Q152 a_tree)))))], (Q153 l4), []⟩ : St) hn mix (no_hand hΓ) (by kernel_rfl) ?_
      refine awp_seq ?_
      refine awp_cond (decide ((i3 : Int) < (Q152 a_tree))) (by kernel_rfl) (fun hb => ?_) (fun hb => ?_)
      · replace h := cond_t hb h
        clear hb
        refine awp_skip ?_
        refine then_normal ?_
        refine awp_seq ?_
        refine awp_block ?_
        refine rgs0 (⟨[(0, (Q151 a_tree)), (3, (.int .i64 x1)), (4, (.vsl 12 l4.length)), (5, (.int .i64 i3)), (14, (.int .i64 (Q152 a_tree))), (15, (.int .i64 i3))], (Q153 l4), []⟩ : St) hn mix (no_hand hΓ) (by kernel_rfl) ?_
        obtain ⟨hc5, h⟩ := chk_some h
        obtain ⟨x6, hx6, h⟩ := bind_some h
        obtain ⟨hc7, h⟩ := chk_some h
        refine rgs [⟨[(12, 34001)], [], (.bool x6.1), [(34001, .arr 1 3 x6.2.length (fun i => eI64 (x6.2.getD i (0 : Int))))]⟩] [] (⟨(Q155 a_tree x1 l4 i3 x6), [(12, .arr 1 3 (bif (Q154 a_tree i3) then x6.2.length else l4.length) (fun i_ => AV.eraseAll (fun n_ => memB n_ [12]) ((fun i => bif (Q154 a_tree i3) then (fun i => eI64 (x6.2.getD i (0 : Int))) i else (fun i => eI64 (l4.getD i (0 : Int))) i) i_)))], []⟩ : St) [(InB i3 a_tree.length), ((Q154 a_tree i3) = true → (Q154 a_tree i3) = true), ((Q154 a_tree i3) = true → (Q154 a_tree i3) = true), ((Q154 a_tree i3) = true → (Q154 a_tree i3) = true), ((Q154 a_tree i3) = true → (Q154 a_tree i3) = true), ((Q154 a_tree i3) = true → (Spec Try.prog 49 [(Q151 a_tree), (.vsl 34001 l4.length), (.int .i64 i3), (.int .i64 x1)] [(34001, .arr 1 3 l4.length (fun i => eI64 (l4.getD i (0 : Int))))] (.bool x6.1) [(34001, .arr 1 3 x6.2.length (fun i => eI64 (x6.2.getD i (0 : Int))))])), ((Q154 a_tree i3) = true → (Q154 a_tree i3) = true), ((Q150 a_tree i3) = true → (Q154 a_tree i3) = true)] hn mix (no_hand hΓ) (by kernel_rfl) ⟨hc5, (fun hg => hg), (fun hg => hg), (fun hg => hg), (fun hg => hg), (fun hg => (ok_dom_leads a_tree l4 i3 x1 x6 (cond_t hg hx6))), (fun hg => hg), gT, trivial⟩ ?_
        refine awp_le (Le.trans (le_of (st' := (⟨(Q155 a_tree x1 l4 i3 x6), [(12, .arr 1 3 (bif (Q154 a_tree i3) then x6.2.length else l4.length) (fun i => eI64 ((bif (Q154 a_tree i3) then x6.2 else l4).getD i (0 : Int))))], []⟩ : St)) (TmpsLe.refl _) (.arr (leL_of_eq bif_len (fun k_ hk_ => (congrArg (AV.eraseAll (fun n_ => memB n_ [12])) ((fun _ _ => bif_row) k_ hk_)).trans rfl)) .nil)) (Le.trans (le_eq (congrArg (fun k_ : Nat => (⟨(Q155 a_tree x1 l4 i3 x6), [(12, .arr 1 3 k_ (fun i => eI64 ((bif (Q154 a_tree i3) then x6.2 else l4).getD i (0 : Int))))], []⟩ : St)) (show (bif (Q154 a_tree i3) then x6.2.length else l4.length) = (bif (Q154 a_tree i3) then x6.2 else l4).length from bif_len))) (le_eq (congrArg (fun k_ : Nat => (⟨[(0, (Q151 a_tree)), (3, (.int .i64 x1)), (4, (.vsl 12 k_)), (14, (.int .i64 (Q152 a_tree))), (15, (.int .i64 i3)), (30, (.bool (bif (Q150 a_tree i3) then (!x6.1) else false)))], [(12, .arr 1 3 ((bif (Q154 a_tree i3) then x6.2 else l4).length) (fun i => eI64 ((bif (Q154 a_tree i3) then x6.2 else l4).getD i (0 : Int))))], []⟩ : St)) (show l4.length = (bif (Q154 a_tree i3) then x6.2 else l4).length from (bif_was hc7)))))) ?_
        refine awp_cond (bif (Q150 a_tree i3) then (!x6.1) else false) (by kernel_rfl) (fun hb => ?_) (fun hb => ?_)
        · replace h := cond_t hb h
          clear hb
          refine rgs0 (⟨[(2, (.bool false))], [], []⟩ : St) hn mix (no_hand hΓ) (by kernel_rfl) ?_
          refine awp_ret ?_
          refine block_ret ?_
          refine then_ret ?_
          obtain rfl := Option.some.inj h
          exact ⟨(by intro hh; cases hh), rfl, ⟨.inl rfl, [], by kernel_rfl⟩⟩
        · replace h := cond_f hb h
          clear hb
          refine awp_skip ?_
          refine block_normal ?_
          refine then_normal ?_
          refine rg0 (⟨[(0, (Q151 a_tree)), (3, (.int .i64 x1)), (4, (.vsl 12 (bif (Q154 a_tree i3) then x6.2 else l4).length)), (14, (.int .i64 (Q152 a_tree))), (15, (.int .i64 (w64 (i3 + (1 : Int)))))], [(12, .arr 1 3 ((bif (Q154 a_tree i3) then x6.2 else l4).length) (fun i => eI64 ((bif (Q154 a_tree i3) then x6.2 else l4).getD i (0 : Int))))], []⟩ : St) hn mix (no_hand hΓ) (by kernel_rfl) ?_
          obtain rfl := Option.some.inj h
          exact ⟨rfl, Le.refl _ _⟩
      · replace h := cond_f hb h
        clear hb
        refine awp_exit ?_
        refine then_exit ?_
        obtain rfl := Option.some.inj h
        exact ⟨(by intro hh; cases hh), rfl, le_restrict_eq [] [] (by kernel_rfl) (no_hand hΓ)⟩
    · clear hx8
      rcases x8 with _ | r10
      · rintro e st' ⟨rfl, hl9⟩
        refine block_here ?_
        refine then_normal ?_
        refine awp_le hl9 ?_
        refine rgs0 (⟨[(2, (.bool true))], [], []⟩ : St) hn mix (no_hand hΓ) (by kernel_rfl) ?_
        refine awp_ret ?_
        obtain rfl := Option.some.inj h
        exact ⟨.inl rfl, [], by kernel_rfl⟩
      · rintro e st' ⟨rfl, hk⟩
        refine block_ret ?_
        refine then_ret ?_
        obtain rfl := Option.some.inj h
        exact hk

noncomputable def m_dom_hasEntry (a_tree : List (Int)) (a_at : Int) : Option Bool :=
  ((m_dom_isPlace a_tree a_at).bind fun x1 => (chk ((x1 == true) = true → (InB a_at a_tree.length)) (some (bif x1 then (((a_tree.getD (a_at).toNat (0 : Int)) : Int) != (-2 : Int)) else false))))
theorem ok_dom_hasEntry (a_tree : List (Int)) (a_at : Int) (r : Bool) (h : m_dom_hasEntry a_tree a_at = some r) : Spec Try.prog 43 [(AV.list 1 eI64 (0 : Int) a_tree .none), (.int .i64 a_at)] [] (.bool r) [] := by
  refine spec_of_awp (fn := Try.f43) Try.func43 rfl rfl (by kernel_rfl) (fun Γ hn hΓ => ?_)
  have hn : Γ.n = 15 := hn
  unfold m_dom_hasEntry at h
  refine rgs0 (⟨[(0, (AV.list 1 eI64 (0 : Int) a_tree .none)), (1, (.int .i64 a_at))], [], []⟩ : St) hn mix (no_hand hΓ) (by kernel_rfl) ?_
  obtain ⟨x1, hx1, h⟩ := bind_some h
  obtain ⟨hc2, h⟩ := chk_some h
  refine rgs [⟨[], [], (.bool x1), []⟩] [] (⟨[(4, (.bool (bif x1 then (((a_tree.getD (a_at).toNat (0 : Int)) : Int) != (-2 : Int)) else false)))], [], []⟩ : St) [(Spec Try.prog 50 [(AV.list 1 eI64 (0 : Int) a_tree .none), (.int .i64 a_at)] [] (.bool x1) []), ((x1 == true) = true → (x1 == true) = true), ((x1 == true) = true → (x1 == true) = true), ((x1 == true) = true → (InB a_at a_tree.length)), ((x1 == true) = true → (x1 == true) = true), ((x1 == true) = true → (x1 == true) = true), (x1 = true → (x1 == true) = true)] hn mix (no_hand hΓ) (by kernel_rfl) ⟨(ok_dom_isPlace a_tree a_at x1 hx1), (fun hg => hg), (fun hg => hg), (fun hg => (hc2 hg)), (fun hg => hg), (fun hg => hg), gT, trivial⟩ ?_
  refine awp_ret ?_
  obtain rfl := Option.some.inj h
  exact ⟨.inl rfl, [], by kernel_rfl⟩

noncomputable def Q157 (x1 : Bool) (x2 : Bool) := ((bif x1 then x2 else false) == true)
noncomputable def m_dom_areIn (a_tree : List (Int)) (a_a : Int) (a_b : Int) : Option Bool :=
  ((m_dom_isTree a_tree).bind fun x1 => ((bif (x1 == true) then m_dom_hasEntry a_tree a_a else some false).bind fun x2 => ((bif ((bif x1 then x2 else false) == true) then m_dom_hasEntry a_tree a_b else some false).bind fun x3 => (some (bif (bif x1 then x2 else false) then x3 else false)))))
theorem ok_dom_areIn (a_tree : List (Int)) (a_a : Int) (a_b : Int) (r : Bool) (h : m_dom_areIn a_tree a_a a_b = some r) : Spec Try.prog 32 [(AV.list 1 eI64 (0 : Int) a_tree .none), (.int .i64 a_a), (.int .i64 a_b)] [] (.bool r) [] := by
  refine spec_of_awp (fn := Try.f32) Try.func32 rfl rfl (by kernel_rfl) (fun Γ hn hΓ => ?_)
  have hn : Γ.n = 19 := hn
  unfold m_dom_areIn at h
  refine rgs0 (⟨[(0, (AV.list 1 eI64 (0 : Int) a_tree .none)), (1, (.int .i64 a_a)), (2, (.int .i64 a_b))], [], []⟩ : St) hn mix (no_hand hΓ) (by kernel_rfl) ?_
  obtain ⟨x1, hx1, h⟩ := bind_some h
  obtain ⟨x2, hx2, h⟩ := bind_some h
  obtain ⟨x3, hx3, h⟩ := bind_some h
  refine rgs [⟨[], [], (.bool x1), []⟩, ⟨[], [], (.bool x2), []⟩, ⟨[], [], (.bool x3), []⟩] [] (⟨[(6, (.bool (bif (bif x1 then x2 else false) then x3 else false)))], [], []⟩ : St) [(Spec Try.prog 42 [(AV.list 1 eI64 (0 : Int) a_tree .none)] [] (.bool x1) []), ((x1 == true) = true → (x1 == true) = true), ((x1 == true) = true → (x1 == true) = true), ((x1 == true) = true → (Spec Try.prog 43 [(AV.list 1 eI64 (0 : Int) a_tree .none), (.int .i64 a_a)] [] (.bool x2) [])), (x1 = true → (x1 == true) = true), ((Q157 x1 x2) = true → (Q157 x1 x2) = true), ((Q157 x1 x2) = true → (Q157 x1 x2) = true), ((Q157 x1 x2) = true → (Spec Try.prog 43 [(AV.list 1 eI64 (0 : Int) a_tree .none), (.int .i64 a_b)] [] (.bool x3) [])), ((bif x1 then x2 else false) = true → (Q157 x1 x2) = true)] hn mix (no_hand hΓ) (by kernel_rfl) ⟨(ok_dom_isTree a_tree x1 hx1), (fun hg => hg), (fun hg => hg), (fun hg => (ok_dom_hasEntry a_tree a_a x2 (cond_t hg hx2))), gT, (fun hg => hg), (fun hg => hg), (fun hg => (ok_dom_hasEntry a_tree a_b x3 (cond_t hg hx3))), gT, trivial⟩ ?_
  refine awp_ret ?_
  obtain rfl := Option.some.inj h
  exact ⟨.inl rfl, [], by kernel_rfl⟩

noncomputable def m_dom_meet_L1 (a_tree : List (Int)) : (Int × List (Bool)) → Option (LR (Int × List (Bool)) (List (Bool))) :=
  fun ((i2, l3) : (Int × List (Bool))) => (bif ((i2 : Int) != (-1 : Int)) then (chk (InB i2 l3.length) (chk (InB i2 a_tree.length) (some (.next ((a_tree.getD (i2).toNat (0 : Int)), (l3.set (i2).toNat true)))))) else (some (.done l3)))
noncomputable def m_dom_meet_L2 (a_tree : List (Int)) (l4 : List (Bool)) : Int → Option (LR Int Int) :=
  fun (i9 : Int) => (chk (InB i9 l4.length) (bif (!(l4.getD (i9).toNat false)) then (chk (InB i9 a_tree.length) (some (.next (a_tree.getD (i9).toNat (0 : Int))))) else (some (.done i9))))
noncomputable def Q158 (a_tree : List (Int)) : AV := (AV.list 1 eI64 (0 : Int) a_tree .none)
noncomputable def Q159 (a_tree : List (Int)) := (List.replicate ((a_tree.length : Int)).toNat false)
noncomputable def Q160 (x7 : List (Bool)) : List (Nat × Own) := [(11, .arr 1 4 x7.length (fun i => eB (x7.getD i false)))]
noncomputable def Q161 (a_tree : List (Int)) (a_b : Int) (l3 : List (Bool)) (i2 : Int) : List (Nat × AV) := [(0, (Q158 a_tree)), (2, (.int .i64 a_b)), (7, (.vsl 11 l3.length)), (8, (.int .i64 i2))]
noncomputable def m_dom_meet (a_tree : List (Int)) (a_a : Int) (a_b : Int) : Option Int :=
  (chk (0 ≤ (a_tree.length : Int) ∧ (a_tree.length : Int) ≤ (a_tree.length : Int) ∧ (a_tree.length : Int) ≤ (room : Int)) ((loopO (S := (Int × List (Bool))) (X := List (Bool)) (m_dom_meet_L1 a_tree) (a_a, (List.replicate ((a_tree.length : Int)).toNat false))).bind (fun x7 => (((loopO (S := Int) (X := Int) (m_dom_meet_L2 a_tree x7) a_b).bind (fun x13 => ((some x13))))))))
theorem ok_dom_meet (a_tree : List (Int)) (a_a : Int) (a_b : Int) (r : Int) (h : m_dom_meet a_tree a_a a_b = some r) : Spec Try.prog 33 [(AV.list 1 eI64 (0 : Int) a_tree .none), (.int .i64 a_a), (.int .i64 a_b)] [] (.int .i64 r) [] := by
  refine spec_of_awp (fn := Try.f33) Try.func33 rfl rfl (by kernel_rfl) (fun Γ hn hΓ => ?_)
  have hn : Γ.n = 32 := hn
  unfold m_dom_meet at h
  refine rgs0 (⟨[(0, (Q158 a_tree)), (1, (.int .i64 a_a)), (2, (.int .i64 a_b))], [], []⟩ : St) hn mix (no_hand hΓ) (by kernel_rfl) ?_
  obtain ⟨hc1, h⟩ := chk_some h
  refine rgs [] [] (⟨[(0, (Q158 a_tree)), (1, (.int .i64 a_a)), (2, (.int .i64 a_b)), (7, (.vsl 11 ((a_tree.length : Int)).toNat))], [(11, .arr 1 4 (((a_tree.length : Int)).toNat) (fun i_ => AV.eraseAll (fun n_ => memB n_ [11]) ((fun _ => [(.bool false)]) i_)))], []⟩ : St) [(0 ≤ (a_tree.length : Int) ∧ (a_tree.length : Int) ≤ (a_tree.length : Int) ∧ (a_tree.length : Int) ≤ (room : Int))] hn mix (no_hand hΓ) (by kernel_rfl) ⟨hc1, trivial⟩ ?_
  refine awp_le (Le.trans (le_of (st' := (⟨[(0, (Q158 a_tree)), (1, (.int .i64 a_a)), (2, (.int .i64 a_b)), (7, (.vsl 11 ((a_tree.length : Int)).toNat))], [(11, .arr 1 4 (((a_tree.length : Int)).toNat) (fun i => eB ((Q159 a_tree).getD i false)))], []⟩ : St)) (TmpsLe.refl _) (.arr (fun k hk => make_le (e := eB) (d := false) (.cons (AVle.refl _) .nil) _ k (repl_lt hk)) .nil)) (le_eq (congrArg (fun k_ : Nat => (⟨[(0, (Q158 a_tree)), (1, (.int .i64 a_a)), (2, (.int .i64 a_b)), (7, (.vsl 11 k_))], [(11, .arr 1 4 k_ (fun i => eB ((Q159 a_tree).getD i false)))], []⟩ : St)) (show ((a_tree.length : Int)).toNat = (Q159 a_tree).length from (List.length_replicate ..).symm)))) ?_
  refine awp_seq ?_
  refine rgs0 (⟨[(0, (Q158 a_tree)), (2, (.int .i64 a_b)), (7, (.vsl 11 (Q159 a_tree).length)), (8, (.int .i64 a_a))], [(11, .arr 1 4 ((Q159 a_tree).length) (fun i => eB ((Q159 a_tree).getD i false)))], []⟩ : St) hn mix (no_hand hΓ) (by kernel_rfl) ?_
  refine awp_block ?_
  refine awp_le (st' := (fun ((i2, l3) : (Int × List (Bool))) => (⟨(Q161 a_tree a_b l3 i2), [(11, .arr 1 4 l3.length (fun i => eB (l3.getD i false)))], []⟩ : St)) (a_a, (Q159 a_tree))) (Le.refl _ _) ?_
  obtain ⟨x7, hx7, h⟩ := bind_some h
  refine awp_loop (fun ((i2, l3) : (Int × List (Bool))) => (⟨(Q161 a_tree a_b l3 i2), [(11, .arr 1 4 l3.length (fun i => eB (l3.getD i false)))], []⟩ : St)) _ (fun (l4 : List (Bool)) (e : Exit) (st : St) => e = (.exit 0) ∧ Le Γ st (⟨[(0, (Q158 a_tree)), (2, (.int .i64 a_b)), (7, (.vsl 11 l4.length))], [(11, .arr 1 4 l4.length (fun i => eB (l4.getD i false)))], []⟩ : St)) ?_ hx7 ?_
  · rintro ⟨i2, l3⟩ y h
    unfold m_dom_meet_L1 at h
    refine awp_seq ?_
    refine rgs0 (⟨[(0, (Q158 a_tree)), (2, (.int .i64 a_b)), (7, (.vsl 11 l3.length)), (8, (.int .i64 i2)), (14, (.bool ((i2 : Int) != (-1 : Int))))], [(11, .arr 1 4 l3.length (fun i => eB (l3.getD i false)))], []⟩ : St) hn mix (no_hand hΓ) (by kernel_rfl) ?_
    refine awp_cond ((i2 : Int) != (-1 : Int)) (by kernel_rfl) (fun hb => ?_) (fun hb => ?_)
    · replace h := cond_t hb h
      clear hb
      refine awp_skip ?_
      refine then_normal ?_
      refine awp_seq ?_
      refine awp_block ?_
      obtain ⟨hc5, h⟩ := chk_some h
      refine rg [] [] (⟨(Q161 a_tree a_b l3 i2), [(11, .arr 1 4 l3.length (fun i_ => AV.eraseAll (fun n_ => memB n_ [11]) ((putF (fun i => eB (l3.getD i false)) (i2).toNat 0 [(.bool true)]) i_)))], []⟩ : St) [(InB i2 l3.length), (l3.length = l3.length)] hn mix (no_hand hΓ) (by kernel_rfl) ⟨hc5, rfl, trivial⟩ ?_
      refine block_normal ?_
      refine then_normal ?_
      refine awp_le (Le.trans (le_of (st' := (⟨(Q161 a_tree a_b l3 i2), [(11, .arr 1 4 l3.length (fun i => eB ((l3.set (i2).toNat true).getD i false)))], []⟩ : St)) (TmpsLe.refl _) (.arr (leL_of_eq (List.length_set ..).symm (fun k_ hk_ => (congrArg (AV.eraseAll (fun n_ => memB n_ [11])) ((putF_set (fun _ _ => rfl) (inB_lt0 hc5) rfl) k_ hk_)).trans rfl)) .nil)) (le_eq (congrArg (fun k_ : Nat => (⟨[(0, (Q158 a_tree)), (2, (.int .i64 a_b)), (7, (.vsl 11 k_)), (8, (.int .i64 i2))], [(11, .arr 1 4 k_ (fun i => eB ((l3.set (i2).toNat true).getD i false)))], []⟩ : St)) (show l3.length = (l3.set (i2).toNat true).length from (List.length_set ..).symm)))) ?_
      obtain ⟨hc6, h⟩ := chk_some h
      refine rg [] [] (⟨[(0, (Q158 a_tree)), (2, (.int .i64 a_b)), (7, (.vsl 11 (l3.set (i2).toNat true).length)), (8, (.int .i64 (a_tree.getD (i2).toNat (0 : Int))))], [(11, .arr 1 4 ((l3.set (i2).toNat true).length) (fun i => eB ((l3.set (i2).toNat true).getD i false)))], []⟩ : St) [(InB i2 a_tree.length)] hn mix (no_hand hΓ) (by kernel_rfl) ⟨hc6, trivial⟩ ?_
      obtain rfl := Option.some.inj h
      exact ⟨rfl, Le.refl _ _⟩
    · replace h := cond_f hb h
      clear hb
      refine awp_exit ?_
      refine then_exit ?_
      obtain rfl := Option.some.inj h
      exact ⟨(by intro hh; cases hh), rfl, le_restrict_eq [0, 2, 7] [11] (by kernel_rfl) (no_hand hΓ)⟩
  · clear hx7
    rintro e st' ⟨rfl, hl8⟩
    refine block_here ?_
    refine then_normal ?_
    refine awp_le hl8 ?_
    refine awp_seq ?_
    refine awp_block ?_
    refine awp_le (st' := (fun (i9 : Int) => (⟨[(0, (Q158 a_tree)), (2, (.int .i64 i9)), (7, (.vsl 11 x7.length))], (Q160 x7), []⟩ : St)) a_b) (Le.refl _ _) ?_
    obtain ⟨x13, hx13, h⟩ := bind_some h
    refine awp_loop (fun (i9 : Int) => (⟨[(0, (Q158 a_tree)), (2, (.int .i64 i9)), (7, (.vsl 11 x7.length))], (Q160 x7), []⟩ : St)) _ (fun (i10 : Int) (e : Exit) (st : St) => e = (.exit 2) ∧ Le Γ st (⟨[(2, (.int .i64 i10))], [], []⟩ : St)) ?_ hx13 ?_
    · intro i9 y h
      unfold m_dom_meet_L2 at h
      refine awp_seq ?_
      obtain ⟨hc11, h⟩ := chk_some h
      refine rgs [] [] (⟨[(0, (Q158 a_tree)), (2, (.int .i64 i9)), (7, (.vsl 11 x7.length)), (26, (.bool (!(x7.getD (i9).toNat false))))], (Q160 x7), []⟩ : St) [(InB i9 x7.length), (x7.length = x7.length)] hn mix (no_hand hΓ) (by kernel_rfl) ⟨hc11, rfl, trivial⟩ ?_
      refine awp_cond (!(x7.getD (i9).toNat false)) (by kernel_rfl) (fun hb => ?_) (fun hb => ?_)
      · replace h := cond_t hb h
        clear hb
        refine awp_skip ?_
        refine then_normal ?_
        refine awp_block ?_
        obtain ⟨hc12, h⟩ := chk_some h
        refine rg [] [] (⟨[(0, (Q158 a_tree)), (2, (.int .i64 (a_tree.getD (i9).toNat (0 : Int)))), (7, (.vsl 11 x7.length))], (Q160 x7), []⟩ : St) [(InB i9 a_tree.length)] hn mix (no_hand hΓ) (by kernel_rfl) ⟨hc12, trivial⟩ ?_
        refine block_normal ?_
        obtain rfl := Option.some.inj h
        exact ⟨rfl, Le.refl _ _⟩
      · replace h := cond_f hb h
        clear hb
        refine awp_exit ?_
        refine then_exit ?_
        obtain rfl := Option.some.inj h
        exact ⟨(by intro hh; cases hh), rfl, le_restrict_eq [2] [] (by kernel_rfl) (no_hand hΓ)⟩
    · clear hx13
      rintro e st' ⟨rfl, hl14⟩
      refine block_here ?_
      refine then_normal ?_
      refine awp_le hl14 ?_
      refine rgs0 (⟨[(6, (.int .i64 x13))], [], []⟩ : St) hn mix (no_hand hΓ) (by kernel_rfl) ?_
      refine awp_ret ?_
      obtain rfl := Option.some.inj h
      exact ⟨.inl rfl, [], by kernel_rfl⟩

noncomputable def m_dom_Over (a_tree : List (Int)) (a_a : Int) (a_b : Int) : Option Bool :=
  ((m_dom_areIn a_tree a_a a_b).bind fun x1 => ((bif (x1 == true) then m_dom_meet a_tree a_a a_b else some (0 : Int)).bind fun x2 => (some (bif x1 then ((x2 : Int) == a_a) else false))))
theorem ok_dom_Over (a_tree : List (Int)) (a_a : Int) (a_b : Int) (r : Bool) (h : m_dom_Over a_tree a_a a_b = some r) : Spec Try.prog 17 [(AV.list 1 eI64 (0 : Int) a_tree .none), (.int .i64 a_a), (.int .i64 a_b)] [] (.bool r) [] := by
  refine spec_of_awp (fn := Try.f17) Try.func17 rfl rfl (by kernel_rfl) (fun Γ hn hΓ => ?_)
  have hn : Γ.n = 19 := hn
  unfold m_dom_Over at h
  refine rgs0 (⟨[(0, (AV.list 1 eI64 (0 : Int) a_tree .none)), (1, (.int .i64 a_a)), (2, (.int .i64 a_b))], [], []⟩ : St) hn mix (no_hand hΓ) (by kernel_rfl) ?_
  obtain ⟨x1, hx1, h⟩ := bind_some h
  obtain ⟨x2, hx2, h⟩ := bind_some h
  refine rgs [⟨[], [], (.bool x1), []⟩, ⟨[], [], (.int .i64 x2), []⟩] [] (⟨[(6, (.bool (bif x1 then ((x2 : Int) == a_a) else false)))], [], []⟩ : St) [(Spec Try.prog 32 [(AV.list 1 eI64 (0 : Int) a_tree .none), (.int .i64 a_a), (.int .i64 a_b)] [] (.bool x1) []), ((x1 == true) = true → (x1 == true) = true), ((x1 == true) = true → (x1 == true) = true), ((x1 == true) = true → (x1 == true) = true), ((x1 == true) = true → (Spec Try.prog 33 [(AV.list 1 eI64 (0 : Int) a_tree .none), (.int .i64 a_a), (.int .i64 a_b)] [] (.int .i64 x2) [])), ((x1 == true) = true → (x1 == true) = true), ((x1 == true) = true → (x1 == true) = true), (x1 = true → (x1 == true) = true)] hn mix (no_hand hΓ) (by kernel_rfl) ⟨(ok_dom_areIn a_tree a_a a_b x1 hx1), (fun hg => hg), (fun hg => hg), (fun hg => hg), (fun hg => (ok_dom_meet a_tree a_a a_b x2 (cond_t hg hx2))), (fun hg => hg), (fun hg => hg), gT, trivial⟩ ?_
  refine awp_ret ?_
  obtain rfl := Option.some.inj h
  exact ⟨.inl rfl, [], by kernel_rfl⟩

noncomputable def m_dom_Meet (a_tree : List (Int)) (a_a : Int) (a_b : Int) : Option Int :=
  ((m_dom_areIn a_tree a_a a_b).bind fun x1 => (bif (!x1) then (some (-2 : Int)) else ((m_dom_meet a_tree a_a a_b).bind fun x2 => (some x2))))
theorem ok_dom_Meet (a_tree : List (Int)) (a_a : Int) (a_b : Int) (r : Int) (h : m_dom_Meet a_tree a_a a_b = some r) : Spec Try.prog 16 [(AV.list 1 eI64 (0 : Int) a_tree .none), (.int .i64 a_a), (.int .i64 a_b)] [] (.int .i64 r) [] := by
  refine spec_of_awp (fn := Try.f16) Try.func16 rfl rfl (by kernel_rfl) (fun Γ hn hΓ => ?_)
  have hn : Γ.n = 16 := hn
  unfold m_dom_Meet at h
  refine rgs0 (⟨[(0, (AV.list 1 eI64 (0 : Int) a_tree .none)), (1, (.int .i64 a_a)), (2, (.int .i64 a_b))], [], []⟩ : St) hn mix (no_hand hΓ) (by kernel_rfl) ?_
  refine awp_seq ?_
  obtain ⟨x1, hx1, h⟩ := bind_some h
  refine rgs [⟨[], [], (.bool x1), []⟩] [] (⟨[(0, (AV.list 1 eI64 (0 : Int) a_tree .none)), (1, (.int .i64 a_a)), (2, (.int .i64 a_b)), (11, (.bool (!x1)))], [], []⟩ : St) [(Spec Try.prog 32 [(AV.list 1 eI64 (0 : Int) a_tree .none), (.int .i64 a_a), (.int .i64 a_b)] [] (.bool x1) [])] hn mix (no_hand hΓ) (by kernel_rfl) ⟨(ok_dom_areIn a_tree a_a a_b x1 hx1), trivial⟩ ?_
  refine awp_cond (!x1) (by kernel_rfl) (fun hb => ?_) (fun hb => ?_)
  · replace h := cond_t hb h
    clear hb
    refine rgs0 (⟨[(6, (.int .i64 (-2 : Int)))], [], []⟩ : St) hn mix (no_hand hΓ) (by kernel_rfl) ?_
    refine awp_ret ?_
    refine then_ret ?_
    obtain rfl := Option.some.inj h
    exact ⟨.inl rfl, [], by kernel_rfl⟩
  · replace h := cond_f hb h
    clear hb
    refine awp_skip ?_
    refine then_normal ?_
    obtain ⟨x2, hx2, h⟩ := bind_some h
    refine rgs [⟨[], [], (.int .i64 x2), []⟩] [] (⟨[(6, (.int .i64 x2))], [], []⟩ : St) [(Spec Try.prog 33 [(AV.list 1 eI64 (0 : Int) a_tree .none), (.int .i64 a_a), (.int .i64 a_b)] [] (.int .i64 x2) [])] hn mix (no_hand hΓ) (by kernel_rfl) ⟨(ok_dom_meet a_tree a_a a_b x2 hx2), trivial⟩ ?_
    refine awp_ret ?_
    obtain rfl := Option.some.inj h
    exact ⟨.inl rfl, [], by kernel_rfl⟩
end Go.Proofs.Ytlnggndmojdcaaa
