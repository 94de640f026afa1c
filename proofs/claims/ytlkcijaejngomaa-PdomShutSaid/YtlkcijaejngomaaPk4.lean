/-
  The machine, the program's functions and the laws' arithmetic: part 4 of 6.
-/
import Derived.Test.YtlkcijaejngomaaPk3
import Derived.Test.YtlkcijaejngomaaProg
set_option linter.unusedVariables false
set_option linter.unusedSimpArgs false
namespace Go.Proofs.Ytlkcijaejngomaa
open Go Go.RowKit
set_option linter.unusedVariables false
set_option maxRecDepth 100000
set_option maxHeartbeats 2000000
def eI64 (x : Int) : List AV := [(.int .i64 x)]
def eLI64 (x : List (Int)) : List AV := [(AV.list 1 eI64 (0 : Int) x .none)]
def eLLI64 (x : List (List (Int))) : List AV := [(AV.list 1 eLI64 [] x .none)]
structure TGraph where
  Succ : List (List (Int))
  Pred : List (List (Int))
  deriving Inhabited, DecidableEq
def eTGraph (x : TGraph) : List AV := [(AV.list 1 eLI64 [] x.Succ .none), (AV.list 1 eLI64 [] x.Pred .none)]
def eB (x : Bool) : List AV := [(.bool x)]
def eA64B (x : List (Bool)) : List AV := flatF 64 (fun i => eB (x.getD i false))
theorem mix : Try.prog.follows .mixedOrders = true := by kernel_rfl
noncomputable def m_graph_isCount (a_n : Int) : Option Bool :=
  (some (bif (decide (((1 : Int) : Int) ≤ a_n)) then (decide ((a_n : Int) ≤ (64 : Int))) else false))
theorem ok_graph_isCount (a_n : Int) (r : Bool) (h : m_graph_isCount a_n = some r) : Spec Try.prog 28 [(.int .i64 a_n)] [] (.bool r) [] := by
  refine spec_of_awp (fn := Try.f28) Try.func28 rfl rfl (by kernel_rfl) (fun Γ hn hΓ => ?_)
  have hn : Γ.n = 9 := hn
  unfold m_graph_isCount at h
  refine rgs0 (⟨[(0, (.int .i64 a_n))], [], []⟩ : St) hn mix (no_hand hΓ) (by kernel_rfl) ?_
  refine rgs [] [] (⟨[(2, (.bool (bif (decide (((1 : Int) : Int) ≤ a_n)) then (decide ((a_n : Int) ≤ (64 : Int))) else false)))], [], []⟩ : St) [(((decide (((1 : Int) : Int) ≤ a_n)) == true) = true → ((decide (((1 : Int) : Int) ≤ a_n)) == true) = true), ((decide (((1 : Int) : Int) ≤ a_n)) = true → ((decide (((1 : Int) : Int) ≤ a_n)) == true) = true)] hn mix (no_hand hΓ) (by kernel_rfl) ⟨(fun hg => hg), gT, trivial⟩ ?_
  refine awp_ret ?_
  obtain rfl := Option.some.inj h
  exact ⟨.inl rfl, [], by kernel_rfl⟩

noncomputable def Q1 (a_at : Int) := (decide (((0 : Int) : Int) ≤ a_at))
noncomputable def m_graph_isPlace (a_at : Int) (a_n : Int) : Option Bool :=
  (some (bif (decide (((0 : Int) : Int) ≤ a_at)) then (decide ((a_at : Int) < a_n)) else false))
theorem ok_graph_isPlace (a_at : Int) (a_n : Int) (r : Bool) (h : m_graph_isPlace a_at a_n = some r) : Spec Try.prog 29 [(.int .i64 a_at), (.int .i64 a_n)] [] (.bool r) [] := by
  refine spec_of_awp (fn := Try.f29) Try.func29 rfl rfl (by kernel_rfl) (fun Γ hn hΓ => ?_)
  have hn : Γ.n = 12 := hn
  unfold m_graph_isPlace at h
  refine rgs0 (⟨[(0, (.int .i64 a_at)), (1, (.int .i64 a_n))], [], []⟩ : St) hn mix (no_hand hΓ) (by kernel_rfl) ?_
  refine rgs [] [] (⟨[(4, (.bool (bif (Q1 a_at) then (decide ((a_at : Int) < a_n)) else false)))], [], []⟩ : St) [(((Q1 a_at) == true) = true → ((Q1 a_at) == true) = true), (((Q1 a_at) == true) = true → ((Q1 a_at) == true) = true), ((Q1 a_at) = true → ((Q1 a_at) == true) = true)] hn mix (no_hand hΓ) (by kernel_rfl) ⟨(fun hg => hg), (fun hg => hg), gT, trivial⟩ ?_
  refine awp_ret ?_
  obtain rfl := Option.some.inj h
  exact ⟨.inl rfl, [], by kernel_rfl⟩

noncomputable def m_graph_succMay_L1 (a_succ : List (List (Int))) (i2 : Int) : (Int × Int) → Option (LR (Int × Int) (Unit ⊕ Bool)) :=
  fun ((i4, i5) : (Int × Int)) => (bif (decide ((i5 : Int) < ((a_succ.getD (i2).toNat []).length : Int))) then (chk (InB i5 (a_succ.getD (i2).toNat []).length) ((bif ((decide ((((a_succ.getD (i2).toNat []).getD (i5).toNat (0 : Int)) : Int) ≤ i4)) == false) then m_graph_isPlace ((a_succ.getD (i2).toNat []).getD (i5).toNat (0 : Int)) (a_succ.length : Int) else some false).bind fun x7 => (bif (bif (decide ((((a_succ.getD (i2).toNat []).getD (i5).toNat (0 : Int)) : Int) ≤ i4)) then true else (!x7)) then (some (.done (.inr false))) else (some (.next (((a_succ.getD (i2).toNat []).getD (i5).toNat (0 : Int)), (w64 (i5 + (1 : Int))))))))) else (some (.done (.inl ()))))
noncomputable def m_graph_succMay_L2 (a_succ : List (List (Int))) : Int → Option (LR Int (Unit ⊕ Bool)) :=
  fun (i2 : Int) => (bif (decide ((i2 : Int) < (a_succ.length : Int))) then (chk (InB i2 a_succ.length) ((loopO (S := (Int × Int)) (X := (Unit ⊕ Bool)) (m_graph_succMay_L1 a_succ i2) ((-1 : Int), (0 : Int))).bind (fun x8 => (match x8 with | (.inl _) => (some (.next (w64 (i2 + (1 : Int))))) | (.inr r10) => (some (.done (.inr r10))))))) else (some (.done (.inl ()))))
noncomputable def Q3 (a_succ : List (List (Int))) : AV := (AV.list 1 eLI64 [] a_succ .none)
noncomputable def Q5 (a_succ : List (List (Int))) : AV := (.int .i64 (a_succ.length : Int))
noncomputable def Q6 (a_succ : List (List (Int))) (i2 : Int) : AV := (.int .i64 ((a_succ.getD (i2).toNat []).length : Int))
noncomputable def Q4 (a_succ : List (List (Int))) (i2 : Int) : AV := (AV.list 1 eI64 (0 : Int) (a_succ.getD (i2).toNat []) .none)
noncomputable def Q7 (a_succ : List (List (Int))) (i2 : Int) (i5 : Int) : AV := (.int .i64 ((a_succ.getD (i2).toNat []).getD (i5).toNat (0 : Int)))
noncomputable def Q2 (a_succ : List (List (Int))) (i2 : Int) (i5 : Int) (i4 : Int) := (decide ((((a_succ.getD (i2).toNat []).getD (i5).toNat (0 : Int)) : Int) ≤ i4))
noncomputable def Q8 (a_succ : List (List (Int))) (i2 : Int) := (⟨[(0, (Q3 a_succ)), (12, (Q3 a_succ)), (13, (Q5 a_succ)), (14, (.int .i64 i2))], [], []⟩ : St)
noncomputable def Q9 (a_succ : List (List (Int))) (i4 : Int) (i2 : Int) (i5 : Int) := (⟨[(0, (Q3 a_succ)), (5, (.int .i64 i4)), (12, (Q3 a_succ)), (13, (Q5 a_succ)), (14, (.int .i64 i2)), (18, (Q4 a_succ i2)), (19, (Q6 a_succ i2)), (20, (.int .i64 i5))], [], []⟩ : St)
noncomputable def m_graph_succMay (a_succ : List (List (Int))) : Option Bool :=
  ((m_graph_isCount (a_succ.length : Int)).bind fun x1 => (bif (!x1) then (some false) else ((loopO (S := Int) (X := (Unit ⊕ Bool)) (m_graph_succMay_L2 a_succ) (0 : Int)).bind (fun x11 => (match x11 with | (.inl _) => (some true) | (.inr r13) => (some r13))))))
theorem ok_graph_succMay (a_succ : List (List (Int))) (r : Bool) (h : m_graph_succMay a_succ = some r) : Spec Try.prog 17 [(AV.list 1 eLI64 [] a_succ .none)] [] (.bool r) [] := by
  refine spec_of_awp (fn := Try.f17) Try.func17 rfl rfl (by kernel_rfl) (fun Γ hn hΓ => ?_)
  have hn : Γ.n = 37 := hn
  unfold m_graph_succMay at h
  refine rgs0 (⟨[(0, (Q3 a_succ))], [], []⟩ : St) hn mix (no_hand hΓ) (by kernel_rfl) ?_
  refine awp_seq ?_
  obtain ⟨x1, hx1, h⟩ := bind_some h
  refine rgs [⟨[], [], (.bool x1), [], []⟩] [] (⟨[(0, (Q3 a_succ)), (11, (.bool (!x1)))], [], []⟩ : St) [(Spec Try.prog 28 [(Q5 a_succ)] [] (.bool x1) [])] hn mix (no_hand hΓ) (by kernel_rfl) ⟨(ok_graph_isCount (a_succ.length : Int) x1 hx1), trivial⟩ ?_
  refine awp_cond (!x1) (by kernel_rfl) (fun hb => ?_) (fun hb => ?_)
  · replace h := cond_t hb h
    clear hb
    refine rgs0 (⟨[(2, (.bool false))], [], []⟩ : St) hn mix (no_hand hΓ) (by kernel_rfl) ?_
    refine awp_ret ?_
    refine then_ret ?_
    obtain rfl := Option.some.inj h
    exact ⟨.inl rfl, [], by kernel_rfl⟩
  · replace h := cond_f hb h
    clear hb
    refine awp_skip ?_
    refine then_normal ?_
    refine awp_seq ?_
    refine rgs0 (⟨[(0, (Q3 a_succ)), (12, (Q3 a_succ)), (13, (Q5 a_succ)), (14, (.int .i64 (0 : Int)))], [], []⟩ : St) hn mix (no_hand hΓ) (by kernel_rfl) ?_
    refine awp_block ?_
    refine awp_le (st' := (fun (i2 : Int) => (Q8 a_succ i2)) (0 : Int)) (Le.refl _ _) ?_
    obtain ⟨x11, hx11, h⟩ := bind_some h
    refine awp_loop (fun (i2 : Int) => (Q8 a_succ i2)) _ (fun (x_ : (Unit ⊕ Bool)) (e : Exit) (st : St) => match x_ with | (.inl _) => e = (.exit 0) ∧ Le Γ st (⟨[], [], []⟩ : St) | (.inr r_) => e = .ret ∧ retK Try.prog Try.f17.results.toList [] (.bool r_) [] e st) ?_ hx11 ?_
    · intro i2 y h
      unfold m_graph_succMay_L2 at h
      refine rgs0 (⟨[(0, (Q3 a_succ)), (12, (Q3 a_succ)), (13, (Q5 a_succ)), (14, (.int .i64 i2)), (15, (.bool (decide ((i2 : Int) < (a_succ.length : Int)))))], [], []⟩ : St) hn mix (no_hand hΓ) (by kernel_rfl) ?_
      refine awp_seq ?_
      refine awp_cond (decide ((i2 : Int) < (a_succ.length : Int))) (by kernel_rfl) (fun hb => ?_) (fun hb => ?_)
      · replace h := cond_t hb h
        clear hb
        refine awp_skip ?_
        refine then_normal ?_
        refine awp_seq ?_
        refine awp_block ?_
        obtain ⟨hc3, h⟩ := chk_some h
        refine rgs [] [] (⟨[(0, (Q3 a_succ)), (4, (Q4 a_succ i2)), (12, (Q3 a_succ)), (13, (Q5 a_succ)), (14, (.int .i64 i2))], [], []⟩ : St) [(InB i2 a_succ.length)] hn mix (no_hand hΓ) (by kernel_rfl) ⟨hc3, trivial⟩ ?_
        refine rgs0 (⟨[(0, (Q3 a_succ)), (4, (Q4 a_succ i2)), (5, (.int .i64 (-1 : Int))), (12, (Q3 a_succ)), (13, (Q5 a_succ)), (14, (.int .i64 i2))], [], []⟩ : St) hn mix (no_hand hΓ) (by kernel_rfl) ?_
        refine rgs0 (⟨[(0, (Q3 a_succ)), (5, (.int .i64 (-1 : Int))), (12, (Q3 a_succ)), (13, (Q5 a_succ)), (14, (.int .i64 i2)), (18, (Q4 a_succ i2)), (19, (Q6 a_succ i2)), (20, (.int .i64 (0 : Int)))], [], []⟩ : St) hn mix (no_hand hΓ) (by kernel_rfl) ?_
        refine awp_block ?_
        refine awp_le (st' := (fun ((i4, i5) : (Int × Int)) => (Q9 a_succ i4 i2 i5)) ((-1 : Int), (0 : Int))) (Le.refl _ _) ?_
        obtain ⟨x8, hx8, h⟩ := bind_some h
        refine awp_loop (fun ((i4, i5) : (Int × Int)) => (Q9 a_succ i4 i2 i5)) _ (fun (x_ : (Unit ⊕ Bool)) (e : Exit) (st : St) => match x_ with | (.inl _) => e = (.exit 2) ∧ Le Γ st (Q8 a_succ i2) | (.inr r_) => e = .ret ∧ retK Try.prog Try.f17.results.toList [] (.bool r_) [] e st) ?_ hx8 ?_
        · rintro ⟨i4, i5⟩ y h
          unfold m_graph_succMay_L1 at h
          refine rgs0 (⟨[(0, (Q3 a_succ)), (5, (.int .i64 i4)), (12, (Q3 a_succ)), (13, (Q5 a_succ)), (14, (.int .i64 i2)), (18, (Q4 a_succ i2)), (19, (Q6 a_succ i2)), (20, (.int .i64 i5)), (21, (.bool (decide ((i5 : Int) < ((a_succ.getD (i2).toNat []).length : Int)))))], [], []⟩ : St) hn mix (no_hand hΓ) (by kernel_rfl) ?_
          refine awp_seq ?_
          refine awp_cond (decide ((i5 : Int) < ((a_succ.getD (i2).toNat []).length : Int))) (by kernel_rfl) (fun hb => ?_) (fun hb => ?_)
          · replace h := cond_t hb h
            clear hb
            refine awp_skip ?_
            refine then_normal ?_
            refine awp_seq ?_
            refine awp_block ?_
            obtain ⟨hc6, h⟩ := chk_some h
            refine rgs [] [] (⟨[(0, (Q3 a_succ)), (5, (.int .i64 i4)), (7, (Q7 a_succ i2 i5)), (12, (Q3 a_succ)), (13, (Q5 a_succ)), (14, (.int .i64 i2)), (18, (Q4 a_succ i2)), (19, (Q6 a_succ i2)), (20, (.int .i64 i5))], [], []⟩ : St) [(InB i5 (a_succ.getD (i2).toNat []).length)] hn mix (no_hand hΓ) (by kernel_rfl) ⟨hc6, trivial⟩ ?_
            refine awp_seq ?_
            obtain ⟨x7, hx7, h⟩ := bind_some h
            refine rgs [⟨[], [], (.bool x7), [], []⟩] [] (⟨[(0, (Q3 a_succ)), (7, (Q7 a_succ i2 i5)), (12, (Q3 a_succ)), (13, (Q5 a_succ)), (14, (.int .i64 i2)), (18, (Q4 a_succ i2)), (19, (Q6 a_succ i2)), (20, (.int .i64 i5)), (33, (.bool (bif (Q2 a_succ i2 i5 i4) then true else (!x7))))], [], []⟩ : St) [(((Q2 a_succ i2 i5 i4) == false) = true → ((Q2 a_succ i2 i5 i4) == false) = true), (((Q2 a_succ i2 i5 i4) == false) = true → ((Q2 a_succ i2 i5 i4) == false) = true), (((Q2 a_succ i2 i5 i4) == false) = true → ((Q2 a_succ i2 i5 i4) == false) = true), (((Q2 a_succ i2 i5 i4) == false) = true → (Spec Try.prog 29 [(Q7 a_succ i2 i5), (Q5 a_succ)] [] (.bool x7) [])), (((Q2 a_succ i2 i5 i4) == false) = true → ((Q2 a_succ i2 i5 i4) == false) = true), ((Q2 a_succ i2 i5 i4) = false → ((Q2 a_succ i2 i5 i4) == false) = true)] hn mix (no_hand hΓ) (by kernel_rfl) ⟨(fun hg => hg), (fun hg => hg), (fun hg => hg), (fun hg => (ok_graph_isPlace ((a_succ.getD (i2).toNat []).getD (i5).toNat (0 : Int)) (a_succ.length : Int) x7 (cond_t hg hx7))), (fun hg => hg), gF, trivial⟩ ?_
            refine awp_cond (bif (Q2 a_succ i2 i5 i4) then true else (!x7)) (by kernel_rfl) (fun hb => ?_) (fun hb => ?_)
            · replace h := cond_t hb h
              clear hb
              refine rgs0 (⟨[(2, (.bool false))], [], []⟩ : St) hn mix (no_hand hΓ) (by kernel_rfl) ?_
              refine awp_ret ?_
              refine then_ret ?_
              refine block_ret ?_
              refine then_ret ?_
              obtain rfl := Option.some.inj h
              exact ⟨(by intro hh; cases hh), rfl, ⟨.inl rfl, [], by kernel_rfl⟩⟩
            · replace h := cond_f hb h
              clear hb
              refine awp_skip ?_
              refine then_normal ?_
              refine rg0 (⟨[(0, (Q3 a_succ)), (5, (Q7 a_succ i2 i5)), (12, (Q3 a_succ)), (13, (Q5 a_succ)), (14, (.int .i64 i2)), (18, (Q4 a_succ i2)), (19, (Q6 a_succ i2)), (20, (.int .i64 i5))], [], []⟩ : St) hn mix (no_hand hΓ) (by kernel_rfl) ?_
              refine block_normal ?_
              refine then_normal ?_
              refine rg0 (⟨[(0, (Q3 a_succ)), (5, (Q7 a_succ i2 i5)), (12, (Q3 a_succ)), (13, (Q5 a_succ)), (14, (.int .i64 i2)), (18, (Q4 a_succ i2)), (19, (Q6 a_succ i2)), (20, (.int .i64 (w64 (i5 + (1 : Int)))))], [], []⟩ : St) hn mix (no_hand hΓ) (by kernel_rfl) ?_
              obtain rfl := Option.some.inj h
              exact ⟨rfl, Le.refl _ _⟩
          · replace h := cond_f hb h
            clear hb
            refine awp_exit ?_
            refine then_exit ?_
            obtain rfl := Option.some.inj h
            exact ⟨(by intro hh; cases hh), rfl, le_restrict_eq [0, 12, 13, 14] [] (by kernel_rfl) (no_hand hΓ)⟩
        · clear hx8
          rcases x8 with _ | r10
          · rintro e st' ⟨rfl, hl9⟩
            refine block_here ?_
            refine block_normal ?_
            refine then_normal ?_
            refine awp_le hl9 ?_
            refine rg0 (⟨[(0, (Q3 a_succ)), (12, (Q3 a_succ)), (13, (Q5 a_succ)), (14, (.int .i64 (w64 (i2 + (1 : Int)))))], [], []⟩ : St) hn mix (no_hand hΓ) (by kernel_rfl) ?_
            obtain rfl := Option.some.inj h
            exact ⟨rfl, Le.refl _ _⟩
          · rintro e st' ⟨rfl, hk⟩
            refine block_ret ?_
            refine block_ret ?_
            refine then_ret ?_
            obtain rfl := Option.some.inj h
            exact ⟨(by intro hh; cases hh), rfl, hk⟩
      · replace h := cond_f hb h
        clear hb
        refine awp_exit ?_
        refine then_exit ?_
        obtain rfl := Option.some.inj h
        exact ⟨(by intro hh; cases hh), rfl, le_restrict_eq [] [] (by kernel_rfl) (no_hand hΓ)⟩
    · clear hx11
      rcases x11 with _ | r13
      · rintro e st' ⟨rfl, hl12⟩
        refine block_here ?_
        refine then_normal ?_
        refine awp_le hl12 ?_
        refine rgs0 (⟨[(2, (.bool true))], [], []⟩ : St) hn mix (no_hand hΓ) (by kernel_rfl) ?_
        refine awp_ret ?_
        obtain rfl := Option.some.inj h
        exact ⟨.inl rfl, [], by kernel_rfl⟩
      · rintro e st' ⟨rfl, hk⟩
        refine block_ret ?_
        refine then_ret ?_
        obtain rfl := Option.some.inj h
        exact hk

noncomputable def Q10 : AV := (AV.list 1 eI64 (0 : Int) ([] : List Int) .exact)
noncomputable def Q11 := (⟨[(2, (AV.list 1 eI64 (0 : Int) ([] : List Int) (.own 6002)))], [(6002, .tok 1 3 (([] : List Int).length))], []⟩ : St)
noncomputable def m_slices_Clone_int_int (a_s : List (Int)) : Option (List (Int)) :=
  (chk (([] : List Int).length + a_s.length ≤ room) (some (([] : List Int) ++ a_s)))
theorem ok_slices_Clone_int_int (a_s : List (Int)) (r : List (Int)) (h : m_slices_Clone_int_int a_s = some r) : Spec Try.prog 23 [(AV.list 1 eI64 (0 : Int) a_s .none)] [] (AV.list 1 eI64 (0 : Int) r (.own 20000)) [(20000, .tok 1 3 r.length)] := by
  refine spec_of_awp (fn := Try.f23) Try.func23 rfl rfl (by kernel_rfl) (fun Γ hn hΓ => ?_)
  have hn : Γ.n = 8 := hn
  unfold m_slices_Clone_int_int at h
  refine rgs [] [(2, Q10)] (⟨[(0, (AV.list 1 eI64 (0 : Int) a_s .none))], [], []⟩ : St) [(AVle (.slice 0 0 (fun _ => []) .exact) Q10)] hn mix (no_hand hΓ) (by kernel_rfl) ⟨av_nil, trivial⟩ ?_
  refine awp_seq ?_
  refine rgs0 (⟨[(0, (AV.list 1 eI64 (0 : Int) a_s .none)), (4, (.nilq true a_s.length))], [], []⟩ : St) hn mix (no_hand hΓ) (by kernel_rfl) ?_
  refine awp_nilq true a_s.length (by kernel_rfl) (fun hb => ?_) (fun hb => ?_)
  · replace h := nil_at (some ([] : List Int)) (fun (l2 : List Int) => (chk (([] : List Int).length + l2.length ≤ room) (some (([] : List Int) ++ l2)))) h (hb rfl) rfl (fun h0 => by first | exact h0 | simpa [chk, room] using h0)
    clear hb
    refine rgs [] [(2, Q10)] (⟨[(2, Q10)], [], []⟩ : St) [(AVle (.slice 0 0 (fun _ => []) .exact) Q10)] hn mix (no_hand hΓ) (by kernel_rfl) ⟨av_nil, trivial⟩ ?_
    refine awp_le (st' := Q11) (Le.trans (le_restrict_eq (st' := (⟨[(2, Q10)], [], []⟩ : St)) [2] [] (by kernel_rfl) (no_hand hΓ)) (Le.trans (le_tag (t := 2) (nm := 6002) (sz' := 1) (fun i => eI64 (([] : List Int).getD i (0 : Int))) 3 rfl rfl (.inl ⟨rfl, rfl⟩) (fun h_ => absurd h_ (by decide))) (le_restrict_eq (st' := Q11) [2] [6002] (by kernel_rfl) (no_hand hΓ)))) ?_
    refine awp_ret ?_
    refine then_ret ?_
    obtain rfl := Option.some.inj h
    exact ⟨.inl rfl, [(6002, 20000)], by kernel_rfl⟩
  · clear hb
    refine awp_skip ?_
    refine then_normal ?_
    obtain ⟨hc1, h⟩ := chk_some h
    refine rgs [] [(5, Q10), (7, (AV.list 1 eI64 (0 : Int) (([] : List Int) ++ a_s) (.own 7)))] (⟨[(2, (AV.list 1 eI64 (0 : Int) (([] : List Int) ++ a_s) (.own 7)))], [(7, .tok 1 3 ((([] : List Int) ++ a_s).length))], []⟩ : St) [(AVle (.slice 1 0 (fun i => ([] : List (List AV)).getD i []) .exact) Q10), (([] : List Int).length + a_s.length ≤ room), (3 = tokU8 → ([] : List Int).length = 0 ∨ 0 < a_s.length), (AVle (.slice 1 (([] : List Int).length + a_s.length) (appF ([] : List Int).length (fun i => eI64 (([] : List Int).getD i (0 : Int))) (fun i => eI64 (a_s.getD i (0 : Int)))) (.own 7)) (AV.list 1 eI64 (0 : Int) (([] : List Int) ++ a_s) (.own 7))), (([] : List Int).length + a_s.length = (([] : List Int) ++ a_s).length)] hn mix (no_hand hΓ) (by kernel_rfl) ⟨av_lit rfl (fun i hi => absurd hi (Nat.not_lt_zero i)), hc1, (fun h_ => absurd h_ (by decide)), av_app, (len_app _ _), trivial⟩ ?_
    refine awp_ret ?_
    obtain rfl := Option.some.inj h
    exact ⟨.inl rfl, [(7, 20000)], by kernel_rfl⟩

noncomputable def m_graph_copied_L1 (a_lists : List (List (Int))) : (Int × List (List (Int))) → Option (LR (Int × List (List (Int))) (List (List (Int)))) :=
  fun ((i2, l3) : (Int × List (List (Int)))) => (bif (decide ((i2 : Int) < (a_lists.length : Int))) then (chk (InB i2 a_lists.length) ((m_slices_Clone_int_int (a_lists.getD (i2).toNat [])).bind fun x6 => (chk (InB i2 l3.length) (some (.next ((w64 (i2 + (1 : Int))), (l3.set (i2).toNat x6))))))) else (some (.done l3)))
noncomputable def Q15 (a_lists : List (List (Int))) := (a_lists.length : Int)
noncomputable def Q16 (a_lists : List (List (Int))) : AV := (AV.list 1 eLI64 [] a_lists .none)
noncomputable def Q14 (l3 : List (List (Int))) : List (Nat × Own) := [(8, .arr 1 30 l3.length (fun i => eLI64 (l3.getD i [])))]
noncomputable def Q13 (a_lists : List (List (Int))) := (List.replicate ((Q15 a_lists)).toNat ([] : List (Int)))
noncomputable def Q12 (l3 : List (List (Int))) (a_lists : List (List (Int))) (i2 : Int) : List (Nat × AV) := [(3, (.vsl 8 l3.length)), (9, (Q16 a_lists)), (10, (.int .i64 (Q15 a_lists))), (11, (.int .i64 i2))]
noncomputable def m_graph_copied (a_lists : List (List (Int))) : Option (List (List (Int))) :=
  (chk (0 ≤ (a_lists.length : Int) ∧ (a_lists.length : Int) ≤ (a_lists.length : Int) ∧ (a_lists.length : Int) ≤ (room : Int)) ((loopO (S := (Int × List (List (Int)))) (X := List (List (Int))) (m_graph_copied_L1 a_lists) ((0 : Int), (List.replicate ((a_lists.length : Int)).toNat ([] : List (Int))))).bind (fun x8 => ((some x8)))))
theorem ok_graph_copied (a_lists : List (List (Int))) (r : List (List (Int))) (h : m_graph_copied a_lists = some r) : Spec Try.prog 18 [(AV.list 1 eLI64 [] a_lists .none)] [] (AV.list 1 eLI64 [] r (.own 20000)) [(20000, .tok 1 30 r.length)] := by
  refine spec_of_awp (fn := Try.f18) Try.func18 rfl rfl (by kernel_rfl) (fun Γ hn hΓ => ?_)
  have hn : Γ.n = 23 := hn
  unfold m_graph_copied at h
  refine rgs [] [(2, (AV.list 1 eLI64 [] ([] : List (List (Int))) .exact))] (⟨[(0, (Q16 a_lists))], [], []⟩ : St) [(AVle (.slice 0 0 (fun _ => []) .exact) (AV.list 1 eLI64 [] ([] : List (List (Int))) .exact))] hn mix (no_hand hΓ) (by kernel_rfl) ⟨av_nil, trivial⟩ ?_
  obtain ⟨hc1, h⟩ := chk_some h
  refine rgs [] [] (⟨[(0, (Q16 a_lists)), (3, (.vsl 8 ((Q15 a_lists)).toNat))], [(8, .arr 1 30 (((Q15 a_lists)).toNat) (fun i_ => AV.eraseAll (fun n_ => memB n_ [8]) ((fun _ => [(.slice 0 0 (fun _ => []) .exact)]) i_)))], []⟩ : St) [(0 ≤ (Q15 a_lists) ∧ (Q15 a_lists) ≤ (Q15 a_lists) ∧ (Q15 a_lists) ≤ (room : Int))] hn mix (no_hand hΓ) (by kernel_rfl) ⟨hc1, trivial⟩ ?_
  refine awp_le (Le.trans (le_of (st' := (⟨[(0, (Q16 a_lists)), (3, (.vsl 8 ((Q15 a_lists)).toNat))], [(8, .arr 1 30 (((Q15 a_lists)).toNat) (fun i => eLI64 ((Q13 a_lists).getD i [])))], []⟩ : St)) (TmpsLe.refl _) (.arr (fun k hk => make_le (e := eLI64) (d := []) (.cons (fun _ _ _ _ _ hh => AVle.untag _ _ _ _ _ (av_nil _ _ _ _ _ hh)) .nil) _ k (repl_lt hk)) .nil)) (le_eq (congrArg (fun k_ : Nat => (⟨[(0, (Q16 a_lists)), (3, (.vsl 8 k_))], [(8, .arr 1 30 k_ (fun i => eLI64 ((Q13 a_lists).getD i [])))], []⟩ : St)) (show ((Q15 a_lists)).toNat = (Q13 a_lists).length from (List.length_replicate ..).symm)))) ?_
  refine awp_seq ?_
  refine rgs0 (⟨[(3, (.vsl 8 (Q13 a_lists).length)), (9, (Q16 a_lists)), (10, (.int .i64 (Q15 a_lists))), (11, (.int .i64 (0 : Int)))], [(8, .arr 1 30 ((Q13 a_lists).length) (fun i => eLI64 ((Q13 a_lists).getD i [])))], []⟩ : St) hn mix (no_hand hΓ) (by kernel_rfl) ?_
  refine awp_block ?_
  refine awp_le (st' := (fun ((i2, l3) : (Int × List (List (Int)))) => (⟨(Q12 l3 a_lists i2), (Q14 l3), []⟩ : St)) ((0 : Int), (Q13 a_lists))) (Le.refl _ _) ?_
  obtain ⟨x8, hx8, h⟩ := bind_some h
  refine awp_loop (fun ((i2, l3) : (Int × List (List (Int)))) => (⟨(Q12 l3 a_lists i2), (Q14 l3), []⟩ : St)) _ (fun (l4 : List (List (Int))) (e : Exit) (st : St) => e = (.exit 0) ∧ Le Γ st (⟨[(3, (.vsl 8 l4.length))], [(8, .arr 1 30 l4.length (fun i => eLI64 (l4.getD i [])))], []⟩ : St)) ?_ hx8 ?_
  · rintro ⟨i2, l3⟩ y h
    unfold m_graph_copied_L1 at h
    refine rgs0 (⟨[(3, (.vsl 8 l3.length)), (9, (Q16 a_lists)), (10, (.int .i64 (Q15 a_lists))), (11, (.int .i64 i2)), (12, (.bool (decide ((i2 : Int) < (Q15 a_lists)))))], (Q14 l3), []⟩ : St) hn mix (no_hand hΓ) (by kernel_rfl) ?_
    refine awp_seq ?_
    refine awp_cond (decide ((i2 : Int) < (Q15 a_lists))) (by kernel_rfl) (fun hb => ?_) (fun hb => ?_)
    · replace h := cond_t hb h
      clear hb
      refine awp_skip ?_
      refine then_normal ?_
      refine awp_seq ?_
      refine awp_block ?_
      obtain ⟨hc5, h⟩ := chk_some h
      refine rgs [] [] (⟨[(3, (.vsl 8 l3.length)), (4, (.int .i64 i2)), (5, (AV.list 1 eI64 (0 : Int) (a_lists.getD (i2).toNat []) .none)), (9, (Q16 a_lists)), (10, (.int .i64 (Q15 a_lists))), (11, (.int .i64 i2))], (Q14 l3), []⟩ : St) [(InB i2 a_lists.length)] hn mix (no_hand hΓ) (by kernel_rfl) ⟨hc5, trivial⟩ ?_
      obtain ⟨x6, hx6, h⟩ := bind_some h
      obtain ⟨hc7, h⟩ := chk_some h
      refine rg [⟨[], [(20000, 19)], (AV.list 1 eI64 (0 : Int) x6 (.own 20000)), [(20000, .tok 1 3 x6.length)], []⟩] [] (⟨(Q12 l3 a_lists i2), [(8, .arr 1 30 l3.length (fun i_ => AV.eraseAll (fun n_ => memB n_ [8]) ((putF (fun i => eLI64 (l3.getD i [])) (i2).toNat 0 [(AV.list 1 eI64 (0 : Int) x6 (.own 19))]) i_)))], []⟩ : St) [(Spec Try.prog 23 [(AV.list 1 eI64 (0 : Int) (a_lists.getD (i2).toNat []) .none)] [] (AV.list 1 eI64 (0 : Int) x6 (.own 20000)) [(20000, .tok 1 3 x6.length)]), (InB i2 l3.length), (l3.length = l3.length)] hn mix (no_hand hΓ) (by kernel_rfl) ⟨(ok_slices_Clone_int_int (a_lists.getD (i2).toNat []) x6 hx6), hc7, rfl, trivial⟩ ?_
      refine block_normal ?_
      refine then_normal ?_
      refine awp_le (Le.trans (le_of (st' := (⟨(Q12 l3 a_lists i2), [(8, .arr 1 30 l3.length (fun i => eLI64 ((l3.set (i2).toNat x6).getD i [])))], []⟩ : St)) (TmpsLe.refl _) (.arr (leL_of_eq (List.length_set ..).symm (putF_erase (fun _ _ => rfl) (fun _ => rfl) (inB_lt0 hc7) rfl)) .nil)) (le_eq (congrArg (fun k_ : Nat => (⟨[(3, (.vsl 8 k_)), (9, (Q16 a_lists)), (10, (.int .i64 (Q15 a_lists))), (11, (.int .i64 i2))], [(8, .arr 1 30 k_ (fun i => eLI64 ((l3.set (i2).toNat x6).getD i [])))], []⟩ : St)) (show l3.length = (l3.set (i2).toNat x6).length from (List.length_set ..).symm)))) ?_
      refine rg0 (⟨[(3, (.vsl 8 (l3.set (i2).toNat x6).length)), (9, (Q16 a_lists)), (10, (.int .i64 (Q15 a_lists))), (11, (.int .i64 (w64 (i2 + (1 : Int)))))], [(8, .arr 1 30 ((l3.set (i2).toNat x6).length) (fun i => eLI64 ((l3.set (i2).toNat x6).getD i [])))], []⟩ : St) hn mix (no_hand hΓ) (by kernel_rfl) ?_
      obtain rfl := Option.some.inj h
      exact ⟨rfl, Le.refl _ _⟩
    · replace h := cond_f hb h
      clear hb
      refine awp_exit ?_
      refine then_exit ?_
      obtain rfl := Option.some.inj h
      exact ⟨(by intro hh; cases hh), rfl, le_restrict_eq [3] [8] (by kernel_rfl) (no_hand hΓ)⟩
  · clear hx8
    rintro e st' ⟨rfl, hl9⟩
    refine block_here ?_
    refine then_normal ?_
    refine awp_le hl9 ?_
    refine rgs0 (⟨[(2, (.vsl 8 x8.length))], [(8, .arr 1 30 x8.length (fun i => eLI64 (x8.getD i [])))], []⟩ : St) hn mix (no_hand hΓ) (by kernel_rfl) ?_
    refine awp_le (Le.trans (le_freeze (nm := 8) (sz := 1) (n := x8.length) (e := 30) (f := (fun i => eLI64 (x8.getD i []))) (g := (fun i => eLI64 (x8.getD i []))) rfl ⟨rfl, trivial⟩ (fun _ _ => rfl) (by rw [hΓ]; rfl)) (le_eq (st' := (⟨[(2, (AV.list 1 eLI64 [] x8 (.own 8)))], [(8, .tok 1 30 x8.length)], []⟩ : St)) (by kernel_rfl))) ?_
    refine awp_ret ?_
    obtain rfl := Option.some.inj h
    exact ⟨.inl rfl, [(8, 20000)], by kernel_rfl⟩

noncomputable def m_graph_comers_L1 (a_succ : List (List (Int))) (i2 : Int) : (Int × List (List (Int))) → Option (LR (Int × List (List (Int))) (List (List (Int)))) :=
  fun ((i6, l7) : (Int × List (List (Int)))) => (bif (decide ((i6 : Int) < ((a_succ.getD (i2).toNat []).length : Int))) then (chk (InB i6 (a_succ.getD (i2).toNat []).length) (chk (InB ((a_succ.getD (i2).toNat []).getD (i6).toNat (0 : Int)) l7.length) (chk (InB ((a_succ.getD (i2).toNat []).getD (i6).toNat (0 : Int)) l7.length) (chk ((l7.getD (((a_succ.getD (i2).toNat []).getD (i6).toNat (0 : Int))).toNat []).length + ([i2] : List (Int)).length ≤ room) (chk (InB ((a_succ.getD (i2).toNat []).getD (i6).toNat (0 : Int)) l7.length) (some (.next ((w64 (i6 + (1 : Int))), (l7.set (((a_succ.getD (i2).toNat []).getD (i6).toNat (0 : Int))).toNat ((l7.getD (((a_succ.getD (i2).toNat []).getD (i6).toNat (0 : Int))).toNat []) ++ ([i2] : List (Int)))))))))))) else (some (.done l7)))
noncomputable def m_graph_comers_L2 (a_succ : List (List (Int))) : (Int × List (List (Int))) → Option (LR (Int × List (List (Int))) (List (List (Int)))) :=
  fun ((i2, l3) : (Int × List (List (Int)))) => (bif (decide ((i2 : Int) < (a_succ.length : Int))) then (chk (InB i2 a_succ.length) ((loopO (S := (Int × List (List (Int)))) (X := List (List (Int))) (m_graph_comers_L1 a_succ i2) ((0 : Int), l3)).bind (fun x14 => ((some (.next ((w64 (i2 + (1 : Int))), x14))))))) else (some (.done l3)))
noncomputable def Q21 (i2 : Int) := ([i2] : List (Int))
noncomputable def Q25 (a_succ : List (List (Int))) : AV := (AV.list 1 eLI64 [] a_succ .none)
noncomputable def Q27 (a_succ : List (List (Int))) : AV := (.int .i64 (a_succ.length : Int))
noncomputable def Q17 (a_succ : List (List (Int))) (i2 : Int) (i6 : Int) := ((a_succ.getD (i2).toNat []).getD (i6).toNat (0 : Int))
noncomputable def Q24 (l7 : List (List (Int))) (a_succ : List (List (Int))) (i2 : Int) (i6 : Int) := (l7.getD ((Q17 a_succ i2 i6)).toNat [])
noncomputable def Q28 (a_succ : List (List (Int))) (i2 : Int) := ((a_succ.getD (i2).toNat []).length : Int)
noncomputable def Q26 (a_succ : List (List (Int))) (i2 : Int) : AV := (AV.list 1 eI64 (0 : Int) (a_succ.getD (i2).toNat []) .none)
noncomputable def Q19 (a_succ : List (List (Int))) := (List.replicate ((a_succ.length : Int)).toNat ([] : List (Int)))
noncomputable def Q20 (l3 : List (List (Int))) : List (Nat × Own) := [(10, .arr 1 30 l3.length (rowF 1 eI64 (0 : Int) l3 (Tag.fam 70010)))]
noncomputable def Q22 (l7 : List (List (Int))) : List (Nat × Own) := [(10, .arr 1 30 l7.length (rowF 1 eI64 (0 : Int) l7 (Tag.fam 70010)))]
noncomputable def Q29 (l7 : List (List (Int))) (a_succ : List (List (Int))) (i2 : Int) (i6 : Int) := (l7.set ((Q17 a_succ i2 i6)).toNat ((Q24 l7 a_succ i2 i6) ++ (Q21 i2)))
noncomputable def Q23 (a_succ : List (List (Int))) : List (Nat × AV) := [(0, (Q25 a_succ)), (3, (.vsl 10 ((a_succ.length : Int)).toNat))]
noncomputable def Q30 (l7 : List (List (Int))) (i2 : Int) (a_succ : List (List (Int))) (i6 : Int) : List (Nat × AV) := [(3, (.vsl 10 l7.length)), (4, (.int .i64 i2)), (7, (.int .i64 (Q17 a_succ i2 i6))), (11, (Q25 a_succ)), (12, (Q27 a_succ)), (13, (.int .i64 i2)), (18, (Q26 a_succ i2)), (19, (.int .i64 (Q28 a_succ i2))), (20, (.int .i64 i6))]
noncomputable def Q18 (l7 : List (List (Int))) (i2 : Int) (a_succ : List (List (Int))) (i6 : Int) : List (Nat × AV) := [(3, (.vsl 10 l7.length)), (4, (.int .i64 i2)), (11, (Q25 a_succ)), (12, (Q27 a_succ)), (13, (.int .i64 i2)), (18, (Q26 a_succ i2)), (19, (.int .i64 (Q28 a_succ i2))), (20, (.int .i64 i6))]
noncomputable def m_graph_comers (a_succ : List (List (Int))) : Option (List (List (Int))) :=
  (chk (0 ≤ (a_succ.length : Int) ∧ (a_succ.length : Int) ≤ (a_succ.length : Int) ∧ (a_succ.length : Int) ≤ (room : Int)) ((loopO (S := (Int × List (List (Int)))) (X := List (List (Int))) (m_graph_comers_L2 a_succ) ((0 : Int), (List.replicate ((a_succ.length : Int)).toNat ([] : List (Int))))).bind (fun x16 => ((some x16)))))
theorem ok_graph_comers (a_succ : List (List (Int))) (r : List (List (Int))) (h : m_graph_comers a_succ = some r) : Spec Try.prog 19 [(AV.list 1 eLI64 [] a_succ .none)] [] (AV.list 1 eLI64 [] r (.own 20000)) [(20000, .tok 1 30 r.length)] := by
  refine spec_of_awp (fn := Try.f19) Try.func19 rfl rfl (by kernel_rfl) (fun Γ hn hΓ => ?_)
  have hn : Γ.n = 37 := hn
  unfold m_graph_comers at h
  refine rgs [] [(2, (AV.list 1 eLI64 [] ([] : List (List (Int))) .exact))] (⟨[(0, (Q25 a_succ))], [], []⟩ : St) [(AVle (.slice 0 0 (fun _ => []) .exact) (AV.list 1 eLI64 [] ([] : List (List (Int))) .exact))] hn mix (no_hand hΓ) (by kernel_rfl) ⟨av_nil, trivial⟩ ?_
  obtain ⟨hc1, h⟩ := chk_some h
  refine rgs [] [] (⟨(Q23 a_succ), [(10, .arr 1 30 (((a_succ.length : Int)).toNat) (fun i_ => AV.eraseAll (fun n_ => memB n_ [10]) ((fun _ => [(.slice 0 0 (fun _ => []) .exact)]) i_)))], []⟩ : St) [(0 ≤ (a_succ.length : Int) ∧ (a_succ.length : Int) ≤ (a_succ.length : Int) ∧ (a_succ.length : Int) ≤ (room : Int))] hn mix (no_hand hΓ) (by kernel_rfl) ⟨hc1, trivial⟩ ?_
  refine awp_le (Le.trans (le_of (st' := (⟨(Q23 a_succ), [(10, .arr 1 30 (((a_succ.length : Int)).toNat) (rowF 1 eI64 (0 : Int) (Q19 a_succ) (fun _ => .exact)))], []⟩ : St)) (TmpsLe.refl _) (.arr fam_zero .nil)) (Le.trans (Le.trans (le_birth (r := 10) (b := 70010) eI64 (0 : Int) (Q19 a_succ) 3 rfl rfl (List.length_replicate ..).symm (fun h_ => absurd h_ (by decide))) (le_eq (st' := (⟨(Q23 a_succ), [(10, .arr 1 30 (((a_succ.length : Int)).toNat) (rowF 1 eI64 (0 : Int) (Q19 a_succ) (Tag.fam 70010)))], [(70010, ⟨1, 3, famM (Q19 a_succ)⟩)]⟩ : St)) (by kernel_rfl))) (le_eq (congrArg (fun k_ : Nat => (⟨[(0, (Q25 a_succ)), (3, (.vsl 10 k_))], [(10, .arr 1 30 k_ (rowF 1 eI64 (0 : Int) (Q19 a_succ) (Tag.fam 70010)))], [(70010, ⟨1, 3, famM (Q19 a_succ)⟩)]⟩ : St)) (show ((a_succ.length : Int)).toNat = (Q19 a_succ).length from (List.length_replicate ..).symm))))) ?_
  refine awp_seq ?_
  refine rgs0 (⟨[(3, (.vsl 10 (Q19 a_succ).length)), (11, (Q25 a_succ)), (12, (Q27 a_succ)), (13, (.int .i64 (0 : Int)))], [(10, .arr 1 30 ((Q19 a_succ).length) (rowF 1 eI64 (0 : Int) (Q19 a_succ) (Tag.fam 70010)))], [(70010, ⟨1, 3, famM (Q19 a_succ)⟩)]⟩ : St) hn mix (no_hand hΓ) (by kernel_rfl) ?_
  refine awp_block ?_
  refine awp_le (st' := (fun ((i2, l3) : (Int × List (List (Int)))) => (⟨[(3, (.vsl 10 l3.length)), (11, (Q25 a_succ)), (12, (Q27 a_succ)), (13, (.int .i64 i2))], (Q20 l3), [(70010, ⟨1, 3, famM l3⟩)]⟩ : St)) ((0 : Int), (Q19 a_succ))) (Le.refl _ _) ?_
  obtain ⟨x16, hx16, h⟩ := bind_some h
  refine awp_loop (fun ((i2, l3) : (Int × List (List (Int)))) => (⟨[(3, (.vsl 10 l3.length)), (11, (Q25 a_succ)), (12, (Q27 a_succ)), (13, (.int .i64 i2))], (Q20 l3), [(70010, ⟨1, 3, famM l3⟩)]⟩ : St)) _ (fun (l4 : List (List (Int))) (e : Exit) (st : St) => e = (.exit 0) ∧ Le Γ st (⟨[(3, (.vsl 10 l4.length))], [(10, .arr 1 30 l4.length (rowF 1 eI64 (0 : Int) l4 (Tag.fam 70010)))], [(70010, ⟨1, 3, famM l4⟩)]⟩ : St)) ?_ hx16 ?_
  · rintro ⟨i2, l3⟩ y h
    unfold m_graph_comers_L2 at h
    refine rgs0 (⟨[(3, (.vsl 10 l3.length)), (11, (Q25 a_succ)), (12, (Q27 a_succ)), (13, (.int .i64 i2)), (14, (.bool (decide ((i2 : Int) < (a_succ.length : Int)))))], (Q20 l3), [(70010, ⟨1, 3, famM l3⟩)]⟩ : St) hn mix (no_hand hΓ) (by kernel_rfl) ?_
    refine awp_seq ?_
    refine awp_cond (decide ((i2 : Int) < (a_succ.length : Int))) (by kernel_rfl) (fun hb => ?_) (fun hb => ?_)
    · replace h := cond_t hb h
      clear hb
      refine awp_skip ?_
      refine then_normal ?_
      refine awp_seq ?_
      refine awp_block ?_
      obtain ⟨hc5, h⟩ := chk_some h
      refine rgs [] [] (⟨[(3, (.vsl 10 l3.length)), (4, (.int .i64 i2)), (5, (Q26 a_succ i2)), (11, (Q25 a_succ)), (12, (Q27 a_succ)), (13, (.int .i64 i2))], (Q20 l3), [(70010, ⟨1, 3, famM l3⟩)]⟩ : St) [(InB i2 a_succ.length)] hn mix (no_hand hΓ) (by kernel_rfl) ⟨hc5, trivial⟩ ?_
      refine rgs0 (⟨[(3, (.vsl 10 l3.length)), (4, (.int .i64 i2)), (11, (Q25 a_succ)), (12, (Q27 a_succ)), (13, (.int .i64 i2)), (18, (Q26 a_succ i2)), (19, (.int .i64 (Q28 a_succ i2))), (20, (.int .i64 (0 : Int)))], (Q20 l3), [(70010, ⟨1, 3, famM l3⟩)]⟩ : St) hn mix (no_hand hΓ) (by kernel_rfl) ?_
      refine awp_block ?_
      refine awp_le (st' := (fun ((i6, l7) : (Int × List (List (Int)))) => (⟨(Q18 l7 i2 a_succ i6), (Q22 l7), [(70010, ⟨1, 3, famM l7⟩)]⟩ : St)) ((0 : Int), l3)) (Le.refl _ _) ?_
      obtain ⟨x14, hx14, h⟩ := bind_some h
      refine awp_loop (fun ((i6, l7) : (Int × List (List (Int)))) => (⟨(Q18 l7 i2 a_succ i6), (Q22 l7), [(70010, ⟨1, 3, famM l7⟩)]⟩ : St)) _ (fun (l8 : List (List (Int))) (e : Exit) (st : St) => e = (.exit 2) ∧ Le Γ st (⟨[(3, (.vsl 10 l8.length)), (11, (Q25 a_succ)), (12, (Q27 a_succ)), (13, (.int .i64 i2))], [(10, .arr 1 30 l8.length (rowF 1 eI64 (0 : Int) l8 (Tag.fam 70010)))], [(70010, ⟨1, 3, famM l8⟩)]⟩ : St)) ?_ hx14 ?_
      · rintro ⟨i6, l7⟩ y h
        unfold m_graph_comers_L1 at h
        refine rgs0 (⟨[(3, (.vsl 10 l7.length)), (4, (.int .i64 i2)), (11, (Q25 a_succ)), (12, (Q27 a_succ)), (13, (.int .i64 i2)), (18, (Q26 a_succ i2)), (19, (.int .i64 (Q28 a_succ i2))), (20, (.int .i64 i6)), (21, (.bool (decide ((i6 : Int) < (Q28 a_succ i2)))))], (Q22 l7), [(70010, ⟨1, 3, famM l7⟩)]⟩ : St) hn mix (no_hand hΓ) (by kernel_rfl) ?_
        refine awp_seq ?_
        refine awp_cond (decide ((i6 : Int) < (Q28 a_succ i2))) (by kernel_rfl) (fun hb => ?_) (fun hb => ?_)
        · replace h := cond_t hb h
          clear hb
          refine awp_skip ?_
          refine then_normal ?_
          refine awp_seq ?_
          refine awp_block ?_
          obtain ⟨hc9, h⟩ := chk_some h
          refine rgs [] [] (⟨(Q30 l7 i2 a_succ i6), (Q22 l7), [(70010, ⟨1, 3, famM l7⟩)]⟩ : St) [(InB i6 (a_succ.getD (i2).toNat []).length)] hn mix (no_hand hΓ) (by kernel_rfl) ⟨hc9, trivial⟩ ?_
          obtain ⟨hc10, h⟩ := chk_some h
          obtain ⟨hc11, h⟩ := chk_some h
          obtain ⟨hc12, h⟩ := chk_some h
          obtain ⟨hc13, h⟩ := chk_some h
          refine awp_le (Le.trans (le_take (r := 10) (b := 70010) (k := 60010) eI64 (0 : Int) l7 ((Q17 a_succ i2 i6)).toNat 3 rfl rfl rfl rfl (inB_lit hc10) (by kernel_rfl) (.here .nil)) (le_eq (st' := (⟨(Q30 l7 i2 a_succ i6), [(10, .arr 1 30 l7.length (rowF 1 eI64 (0 : Int) l7 (famTag 70010 ((Q17 a_succ i2 i6)).toNat 60010))), (60010, .tok 1 3 ((Q24 l7 a_succ i2 i6).length))], [(70010, ⟨1, 3, holeM l7 ((Q17 a_succ i2 i6)).toNat⟩)]⟩ : St)) (by kernel_rfl))) ?_
          refine rg [] [(29, (AV.list 1 eI64 (0 : Int) (Q24 l7 a_succ i2 i6) (.own 60010))), (31, (AV.list 1 eI64 (0 : Int) (Q21 i2) .exact)), (32, (AV.list 1 eI64 (0 : Int) ((Q24 l7 a_succ i2 i6) ++ (Q21 i2)) (.own 60010)))] (⟨(Q18 l7 i2 a_succ i6), [(10, .arr 1 30 l7.length (fun i_ => AV.eraseAll (fun n_ => memB n_ [10, 60010, 70010]) ((putF (rowF 1 eI64 (0 : Int) l7 (famTag 70010 ((Q17 a_succ i2 i6)).toNat 60010)) ((Q17 a_succ i2 i6)).toNat 0 [(AV.list 1 eI64 (0 : Int) ((Q24 l7 a_succ i2 i6) ++ (Q21 i2)) (.own 60010))]) i_))), (60010, .tok 1 3 (((Q24 l7 a_succ i2 i6) ++ (Q21 i2)).length))], [(70010, ⟨1, 3, holeM l7 ((Q17 a_succ i2 i6)).toNat⟩)]⟩ : St) [(InB (Q17 a_succ i2 i6) l7.length), (l7.length = l7.length), (AVle (((rowF 1 eI64 (0 : Int) l7 (famTag 70010 ((Q17 a_succ i2 i6)).toNat 60010)) ((Q17 a_succ i2 i6)).toNat).getD 0 .any) (AV.list 1 eI64 (0 : Int) (Q24 l7 a_succ i2 i6) (.own 60010))), (AVle (.slice 1 1 (fun i => ([[(.int .i64 i2)]] : List (List AV)).getD i []) .exact) (AV.list 1 eI64 (0 : Int) (Q21 i2) .exact)), ((Q24 l7 a_succ i2 i6).length = (Q24 l7 a_succ i2 i6).length), ((Q24 l7 a_succ i2 i6).length + (Q21 i2).length ≤ room), (AVle (.slice 1 ((Q24 l7 a_succ i2 i6).length + (Q21 i2).length) (appF (Q24 l7 a_succ i2 i6).length (fun i => eI64 ((Q24 l7 a_succ i2 i6).getD i (0 : Int))) (fun i => eI64 ((Q21 i2).getD i (0 : Int)))) (.own 60010)) (AV.list 1 eI64 (0 : Int) ((Q24 l7 a_succ i2 i6) ++ (Q21 i2)) (.own 60010))), ((Q24 l7 a_succ i2 i6).length + (Q21 i2).length = ((Q24 l7 a_succ i2 i6) ++ (Q21 i2)).length), (InB (Q17 a_succ i2 i6) l7.length), (l7.length = l7.length)] hn mix (no_hand hΓ) (by kernel_rfl) ⟨hc11, rfl, av_famtag, (av_lit rfl (fun i hi => map_get (e := eI64) (d := (0 : Int)) (Q21 i2) i hi)), rfl, hc12, av_app, (len_app _ _), hc13, rfl, trivial⟩ ?_
          refine block_normal ?_
          refine then_normal ?_
          refine awp_le (Le.trans (Le.trans (le_put (r := 10) (b := 70010) (k := 60010) eI64 (0 : Int) l7 ((Q17 a_succ i2 i6)).toNat ((Q24 l7 a_succ i2 i6) ++ (Q21 i2)) 3 rfl (putF_fam (inB_lit hc10) rfl rfl) rfl rfl rfl rfl (inB_lit hc10) (by kernel_rfl) (.here (.tok .nil)) (by rw [hΓ]; rfl)) (le_eq (st' := (⟨(Q18 l7 i2 a_succ i6), [(10, .arr 1 30 l7.length (rowF 1 eI64 (0 : Int) (Q29 l7 a_succ i2 i6) (Tag.fam 70010)))], [(70010, ⟨1, 3, famM (Q29 l7 a_succ i2 i6)⟩)]⟩ : St)) (by kernel_rfl))) (le_eq (congrArg (fun k_ : Nat => (⟨[(3, (.vsl 10 k_)), (4, (.int .i64 i2)), (11, (Q25 a_succ)), (12, (Q27 a_succ)), (13, (.int .i64 i2)), (18, (Q26 a_succ i2)), (19, (.int .i64 (Q28 a_succ i2))), (20, (.int .i64 i6))], [(10, .arr 1 30 k_ (rowF 1 eI64 (0 : Int) (Q29 l7 a_succ i2 i6) (Tag.fam 70010)))], [(70010, ⟨1, 3, famM (Q29 l7 a_succ i2 i6)⟩)]⟩ : St)) (show l7.length = (Q29 l7 a_succ i2 i6).length from (List.length_set ..).symm)))) ?_
          refine rg0 (⟨[(3, (.vsl 10 (Q29 l7 a_succ i2 i6).length)), (4, (.int .i64 i2)), (11, (Q25 a_succ)), (12, (Q27 a_succ)), (13, (.int .i64 i2)), (18, (Q26 a_succ i2)), (19, (.int .i64 (Q28 a_succ i2))), (20, (.int .i64 (w64 (i6 + (1 : Int)))))], [(10, .arr 1 30 ((Q29 l7 a_succ i2 i6).length) (rowF 1 eI64 (0 : Int) (Q29 l7 a_succ i2 i6) (Tag.fam 70010)))], [(70010, ⟨1, 3, famM (Q29 l7 a_succ i2 i6)⟩)]⟩ : St) hn mix (no_hand hΓ) (by kernel_rfl) ?_
          obtain rfl := Option.some.inj h
          exact ⟨rfl, Le.refl _ _⟩
        · replace h := cond_f hb h
          clear hb
          refine awp_exit ?_
          refine then_exit ?_
          obtain rfl := Option.some.inj h
          exact ⟨(by intro hh; cases hh), rfl, le_restrict_eq [3, 11, 12, 13] [10, 70010] (by kernel_rfl) (no_hand hΓ)⟩
      · clear hx14
        rintro e st' ⟨rfl, hl15⟩
        refine block_here ?_
        refine block_normal ?_
        refine then_normal ?_
        refine awp_le hl15 ?_
        refine rg0 (⟨[(3, (.vsl 10 x14.length)), (11, (Q25 a_succ)), (12, (Q27 a_succ)), (13, (.int .i64 (w64 (i2 + (1 : Int)))))], [(10, .arr 1 30 x14.length (rowF 1 eI64 (0 : Int) x14 (Tag.fam 70010)))], [(70010, ⟨1, 3, famM x14⟩)]⟩ : St) hn mix (no_hand hΓ) (by kernel_rfl) ?_
        obtain rfl := Option.some.inj h
        exact ⟨rfl, Le.refl _ _⟩
    · replace h := cond_f hb h
      clear hb
      refine awp_exit ?_
      refine then_exit ?_
      obtain rfl := Option.some.inj h
      exact ⟨(by intro hh; cases hh), rfl, le_restrict_eq [3] [10, 70010] (by kernel_rfl) (no_hand hΓ)⟩
  · clear hx16
    rintro e st' ⟨rfl, hl17⟩
    refine block_here ?_
    refine then_normal ?_
    refine awp_le hl17 ?_
    refine rgs0 (⟨[(2, (.vsl 10 x16.length))], [(10, .arr 1 30 x16.length (rowF 1 eI64 (0 : Int) x16 (Tag.fam 70010)))], [(70010, ⟨1, 3, famM x16⟩)]⟩ : St) hn mix (no_hand hΓ) (by kernel_rfl) ?_
    refine awp_le (Le.trans (le_freeze (nm := 10) (sz := 1) (n := x16.length) (e := 30) (f := (rowF 1 eI64 (0 : Int) x16 (Tag.fam 70010))) (g := (fun i => eLI64 (x16.getD i []))) rfl ⟨rfl, trivial⟩ (fun _ _ => rfl) (by rw [hΓ]; rfl)) (le_restrict_eq (st' := (⟨[(2, (AV.list 1 eLI64 [] x16 (.own 10)))], [(10, .tok 1 30 x16.length)], []⟩ : St)) [2] [10] (by kernel_rfl) (no_hand hΓ))) ?_
    refine awp_ret ?_
    obtain rfl := Option.some.inj h
    exact ⟨.inl rfl, [(10, 20000)], by kernel_rfl⟩

noncomputable def Q32 : AV := (.slice 0 0 (fun _ => []) .exact)
noncomputable def Q31 : AV := (AV.list 1 eLI64 [] ([] : List (List (Int))) .exact)
noncomputable def m_graph_Make (a_succ : List (List (Int))) : Option (TGraph × Int) :=
  ((m_graph_succMay a_succ).bind fun x1 => (bif (!x1) then (some ((⟨([] : List (List (Int))), ([] : List (List (Int)))⟩ : TGraph), (5 : Int))) else ((m_graph_copied a_succ).bind fun x2 => ((m_graph_comers a_succ).bind fun x3 => (some ((⟨x2, x3⟩ : TGraph), (0 : Int)))))))
theorem ok_graph_Make (a_succ : List (List (Int))) (r : (TGraph × Int)) (h : m_graph_Make a_succ = some r) : Spec Try.prog 9 [(AV.list 1 eLI64 [] a_succ .none)] [] (.tuple [(.agg (eTGraph r.1)), (.int .i64 r.2)]) [] := by
  refine spec_of_awp (fn := Try.f9) Try.func9 rfl rfl (by kernel_rfl) (fun Γ hn hΓ => ?_)
  have hn : Γ.n = 13 := hn
  unfold m_graph_Make at h
  refine rgs0 (⟨[(0, (AV.list 1 eLI64 [] a_succ .none)), (2, (.ptr 2 0))], [(2, .row 26 [Q32, Q32])], []⟩ : St) hn mix (no_hand hΓ) (by kernel_rfl) ?_
  refine awp_seq ?_
  obtain ⟨x1, hx1, h⟩ := bind_some h
  refine rgs [⟨[], [], (.bool x1), [], []⟩] [] (⟨[(0, (AV.list 1 eLI64 [] a_succ .none)), (2, (.ptr 2 0)), (6, (.bool (!x1)))], [(2, .row 26 [Q32, Q32])], []⟩ : St) [(Spec Try.prog 17 [(AV.list 1 eLI64 [] a_succ .none)] [] (.bool x1) [])] hn mix (no_hand hΓ) (by kernel_rfl) ⟨(ok_graph_succMay a_succ x1 hx1), trivial⟩ ?_
  refine awp_cond (!x1) (by kernel_rfl) (fun hb => ?_) (fun hb => ?_)
  · replace h := cond_t hb h
    clear hb
    refine rgs [] [(7, (.agg [Q31, Q31]))] (⟨[(2, (.ptr 2 0)), (3, (.int .i64 (5 : Int)))], [(2, .row 26 [Q31, Q31])], []⟩ : St) [(AVle (.agg [Q32, Q32]) (.agg [Q31, Q31]))] hn mix (no_hand hΓ) (by kernel_rfl) ⟨(AVle.agg (.cons av_nil (.cons av_nil .nil))), trivial⟩ ?_
    refine awp_le (st' := (⟨[(2, (.ptr 2 0)), (3, (.int .i64 (5 : Int)))], [(2, .row 26 [(AV.list 1 eLI64 [] ([] : List (List (Int))) .none), (AV.list 1 eLI64 [] ([] : List (List (Int))) .none)])], []⟩ : St)) (Le.trans (le_restrict_eq (st' := (⟨[(2, (.ptr 2 0)), (3, (.int .i64 (5 : Int)))], [(2, .row 26 [Q31, Q31])], []⟩ : St)) [2, 3] [2] (by kernel_rfl) (no_hand hΓ)) (le_of (.cons (AVle.refl _) (.cons (AVle.refl _) .nil)) (.row (.cons AVle.untag (.cons AVle.untag .nil)) .nil))) ?_
    refine awp_ret ?_
    refine then_ret ?_
    obtain rfl := Option.some.inj h
    exact ⟨.inl rfl, [], by kernel_rfl⟩
  · replace h := cond_f hb h
    clear hb
    refine awp_skip ?_
    refine then_normal ?_
    obtain ⟨x2, hx2, h⟩ := bind_some h
    obtain ⟨x3, hx3, h⟩ := bind_some h
    refine rgs [⟨[], [(20000, 9)], (AV.list 1 eLI64 [] x2 (.own 20000)), [(20000, .tok 1 30 x2.length)], []⟩, ⟨[], [(20000, 11)], (AV.list 1 eLI64 [] x3 (.own 20000)), [(20000, .tok 1 30 x3.length)], []⟩] [] (⟨[(2, (.ptr 2 0)), (3, (.int .i64 (0 : Int)))], [(2, .row 26 [(AV.list 1 eLI64 [] x2 (.own 9)), (AV.list 1 eLI64 [] x3 (.own 11))]), (9, .tok 1 30 x2.length), (11, .tok 1 30 x3.length)], []⟩ : St) [(Spec Try.prog 18 [(AV.list 1 eLI64 [] a_succ .none)] [] (AV.list 1 eLI64 [] x2 (.own 20000)) [(20000, .tok 1 30 x2.length)]), (Spec Try.prog 19 [(AV.list 1 eLI64 [] a_succ .none)] [] (AV.list 1 eLI64 [] x3 (.own 20000)) [(20000, .tok 1 30 x3.length)])] hn mix (no_hand hΓ) (by kernel_rfl) ⟨(ok_graph_copied a_succ x2 hx2), (ok_graph_comers a_succ x3 hx3), trivial⟩ ?_
    refine awp_ret ?_
    obtain rfl := Option.some.inj h
    exact ⟨.inl rfl, [], by kernel_rfl⟩

noncomputable def m_slices_Equal_int_int_L1 (a_s1 : List (Int)) (a_s2 : List (Int)) : Int → Option (LR Int (Unit ⊕ Bool)) :=
  fun (i1 : Int) => (bif (decide ((i1 : Int) < (a_s1.length : Int))) then (chk (InB i1 a_s1.length) (chk (InB i1 a_s2.length) (bif (((a_s1.getD (i1).toNat (0 : Int)) : Int) != (a_s2.getD (i1).toNat (0 : Int))) then (some (.done (.inr false))) else (some (.next (w64 (i1 + (1 : Int)))))))) else (some (.done (.inl ()))))
noncomputable def Q35 (a_s1 : List (Int)) : AV := (.int .i64 (a_s1.length : Int))
noncomputable def Q33 (a_s1 : List (Int)) : AV := (AV.list 1 eI64 (0 : Int) a_s1 .none)
noncomputable def Q34 (a_s2 : List (Int)) : AV := (AV.list 1 eI64 (0 : Int) a_s2 .none)
noncomputable def m_slices_Equal_int_int (a_s1 : List (Int)) (a_s2 : List (Int)) : Option Bool :=
  (bif (((a_s1.length : Int) : Int) != (a_s2.length : Int)) then (some false) else ((loopO (S := Int) (X := (Unit ⊕ Bool)) (m_slices_Equal_int_int_L1 a_s1 a_s2) (0 : Int)).bind (fun x4 => (match x4 with | (.inl _) => (some true) | (.inr r6) => (some r6)))))
theorem ok_slices_Equal_int_int (a_s1 : List (Int)) (a_s2 : List (Int)) (r : Bool) (h : m_slices_Equal_int_int a_s1 a_s2 = some r) : Spec Try.prog 34 [(AV.list 1 eI64 (0 : Int) a_s1 .none), (AV.list 1 eI64 (0 : Int) a_s2 .none)] [] (.bool r) [] := by
  refine spec_of_awp (fn := Try.f34) Try.func34 rfl rfl (by kernel_rfl) (fun Γ hn hΓ => ?_)
  have hn : Γ.n = 26 := hn
  unfold m_slices_Equal_int_int at h
  refine rgs0 (⟨[(0, (Q33 a_s1)), (1, (Q34 a_s2))], [], []⟩ : St) hn mix (no_hand hΓ) (by kernel_rfl) ?_
  refine awp_seq ?_
  refine rgs0 (⟨[(0, (Q33 a_s1)), (1, (Q34 a_s2)), (10, (.bool (((a_s1.length : Int) : Int) != (a_s2.length : Int))))], [], []⟩ : St) hn mix (no_hand hΓ) (by kernel_rfl) ?_
  refine awp_cond (((a_s1.length : Int) : Int) != (a_s2.length : Int)) (by kernel_rfl) (fun hb => ?_) (fun hb => ?_)
  · replace h := cond_t hb h
    clear hb
    refine rgs0 (⟨[(4, (.bool false))], [], []⟩ : St) hn mix (no_hand hΓ) (by kernel_rfl) ?_
    refine awp_ret ?_
    refine then_ret ?_
    obtain rfl := Option.some.inj h
    exact ⟨.inl rfl, [], by kernel_rfl⟩
  · replace h := cond_f hb h
    clear hb
    refine awp_skip ?_
    refine then_normal ?_
    refine awp_seq ?_
    refine rgs0 (⟨[(0, (Q33 a_s1)), (1, (Q34 a_s2)), (12, (Q35 a_s1)), (13, (.int .i64 (0 : Int)))], [], []⟩ : St) hn mix (no_hand hΓ) (by kernel_rfl) ?_
    refine awp_block ?_
    refine awp_le (st' := (fun (i1 : Int) => (⟨[(0, (Q33 a_s1)), (1, (Q34 a_s2)), (12, (Q35 a_s1)), (13, (.int .i64 i1))], [], []⟩ : St)) (0 : Int)) (Le.refl _ _) ?_
    obtain ⟨x4, hx4, h⟩ := bind_some h
    refine awp_loop (fun (i1 : Int) => (⟨[(0, (Q33 a_s1)), (1, (Q34 a_s2)), (12, (Q35 a_s1)), (13, (.int .i64 i1))], [], []⟩ : St)) _ (fun (x_ : (Unit ⊕ Bool)) (e : Exit) (st : St) => match x_ with | (.inl _) => e = (.exit 0) ∧ Le Γ st (⟨[], [], []⟩ : St) | (.inr r_) => e = .ret ∧ retK Try.prog Try.f34.results.toList [] (.bool r_) [] e st) ?_ hx4 ?_
    · intro i1 y h
      unfold m_slices_Equal_int_int_L1 at h
      refine rgs0 (⟨[(0, (Q33 a_s1)), (1, (Q34 a_s2)), (12, (Q35 a_s1)), (13, (.int .i64 i1)), (14, (.bool (decide ((i1 : Int) < (a_s1.length : Int)))))], [], []⟩ : St) hn mix (no_hand hΓ) (by kernel_rfl) ?_
      refine awp_seq ?_
      refine awp_cond (decide ((i1 : Int) < (a_s1.length : Int))) (by kernel_rfl) (fun hb => ?_) (fun hb => ?_)
      · replace h := cond_t hb h
        clear hb
        refine awp_skip ?_
        refine then_normal ?_
        refine awp_seq ?_
        refine awp_block ?_
        refine rgs0 (⟨[(0, (Q33 a_s1)), (1, (Q34 a_s2)), (5, (.int .i64 i1)), (12, (Q35 a_s1)), (13, (.int .i64 i1))], [], []⟩ : St) hn mix (no_hand hΓ) (by kernel_rfl) ?_
        obtain ⟨hc2, h⟩ := chk_some h
        obtain ⟨hc3, h⟩ := chk_some h
        refine rgs [] [] (⟨[(0, (Q33 a_s1)), (1, (Q34 a_s2)), (12, (Q35 a_s1)), (13, (.int .i64 i1)), (24, (.bool (((a_s1.getD (i1).toNat (0 : Int)) : Int) != (a_s2.getD (i1).toNat (0 : Int)))))], [], []⟩ : St) [(InB i1 a_s1.length), (InB i1 a_s2.length)] hn mix (no_hand hΓ) (by kernel_rfl) ⟨hc2, hc3, trivial⟩ ?_
        refine awp_cond (((a_s1.getD (i1).toNat (0 : Int)) : Int) != (a_s2.getD (i1).toNat (0 : Int))) (by kernel_rfl) (fun hb => ?_) (fun hb => ?_)
        · replace h := cond_t hb h
          clear hb
          refine rgs0 (⟨[(4, (.bool false))], [], []⟩ : St) hn mix (no_hand hΓ) (by kernel_rfl) ?_
          refine awp_ret ?_
          refine block_ret ?_
          refine then_ret ?_
          obtain rfl := Option.some.inj h
          exact ⟨(by intro hh; cases hh), rfl, ⟨.inl rfl, [], by kernel_rfl⟩⟩
        · replace h := cond_f hb h
          clear hb
          refine awp_skip ?_
          refine block_normal ?_
          refine then_normal ?_
          refine rg0 (⟨[(0, (Q33 a_s1)), (1, (Q34 a_s2)), (12, (Q35 a_s1)), (13, (.int .i64 (w64 (i1 + (1 : Int)))))], [], []⟩ : St) hn mix (no_hand hΓ) (by kernel_rfl) ?_
          obtain rfl := Option.some.inj h
          exact ⟨rfl, Le.refl _ _⟩
      · replace h := cond_f hb h
        clear hb
        refine awp_exit ?_
        refine then_exit ?_
        obtain rfl := Option.some.inj h
        exact ⟨(by intro hh; cases hh), rfl, le_restrict_eq [] [] (by kernel_rfl) (no_hand hΓ)⟩
    · clear hx4
      rcases x4 with _ | r6
      · rintro e st' ⟨rfl, hl5⟩
        refine block_here ?_
        refine then_normal ?_
        refine awp_le hl5 ?_
        refine rgs0 (⟨[(4, (.bool true))], [], []⟩ : St) hn mix (no_hand hΓ) (by kernel_rfl) ?_
        refine awp_ret ?_
        obtain rfl := Option.some.inj h
        exact ⟨.inl rfl, [], by kernel_rfl⟩
      · rintro e st' ⟨rfl, hk⟩
        refine block_ret ?_
        refine then_ret ?_
        obtain rfl := Option.some.inj h
        exact hk

noncomputable def m_slices_EqualFunc_int_int_int_int_L1 (a_s1 : List (List (Int))) (a_s2 : List (List (Int))) : Int → Option (LR Int (Unit ⊕ Bool)) :=
  fun (i1 : Int) => (bif (decide ((i1 : Int) < (a_s1.length : Int))) then (chk (InB i1 a_s1.length) (chk (InB i1 a_s2.length) ((m_slices_Equal_int_int (a_s1.getD (i1).toNat []) (a_s2.getD (i1).toNat [])).bind fun x4 => (bif (!x4) then (some (.done (.inr false))) else (some (.next (w64 (i1 + (1 : Int))))))))) else (some (.done (.inl ()))))
noncomputable def Q36 (a_s1 : List (List (Int))) : AV := (AV.list 1 eLI64 [] a_s1 .none)
noncomputable def Q37 (a_s2 : List (List (Int))) : AV := (AV.list 1 eLI64 [] a_s2 .none)
noncomputable def Q38 (a_s1 : List (List (Int))) : AV := (.int .i64 (a_s1.length : Int))
noncomputable def m_slices_EqualFunc_int_int_int_int (a_s1 : List (List (Int))) (a_s2 : List (List (Int))) : Option Bool :=
  (bif (((a_s1.length : Int) : Int) != (a_s2.length : Int)) then (some false) else ((loopO (S := Int) (X := (Unit ⊕ Bool)) (m_slices_EqualFunc_int_int_int_int_L1 a_s1 a_s2) (0 : Int)).bind (fun x5 => (match x5 with | (.inl _) => (some true) | (.inr r7) => (some r7)))))
theorem ok_slices_EqualFunc_int_int_int_int (a_s1 : List (List (Int))) (a_s2 : List (List (Int))) (r : Bool) (h : m_slices_EqualFunc_int_int_int_int a_s1 a_s2 = some r) : Spec Try.prog 33 [(AV.list 1 eLI64 [] a_s1 .none), (AV.list 1 eLI64 [] a_s2 .none), (.clo 34 [] [])] [] (.bool r) [] := by
  refine spec_of_awp (fn := Try.f33) Try.func33 rfl rfl (by kernel_rfl) (fun Γ hn hΓ => ?_)
  have hn : Γ.n = 32 := hn
  unfold m_slices_EqualFunc_int_int_int_int at h
  refine rgs0 (⟨[(0, (Q36 a_s1)), (1, (Q37 a_s2)), (2, (.clo 34 [] []))], [], []⟩ : St) hn mix (no_hand hΓ) (by kernel_rfl) ?_
  refine awp_seq ?_
  refine rgs0 (⟨[(0, (Q36 a_s1)), (1, (Q37 a_s2)), (2, (.clo 34 [] [])), (14, (.bool (((a_s1.length : Int) : Int) != (a_s2.length : Int))))], [], []⟩ : St) hn mix (no_hand hΓ) (by kernel_rfl) ?_
  refine awp_cond (((a_s1.length : Int) : Int) != (a_s2.length : Int)) (by kernel_rfl) (fun hb => ?_) (fun hb => ?_)
  · replace h := cond_t hb h
    clear hb
    refine rgs0 (⟨[(6, (.bool false))], [], []⟩ : St) hn mix (no_hand hΓ) (by kernel_rfl) ?_
    refine awp_ret ?_
    refine then_ret ?_
    obtain rfl := Option.some.inj h
    exact ⟨.inl rfl, [], by kernel_rfl⟩
  · replace h := cond_f hb h
    clear hb
    refine awp_skip ?_
    refine then_normal ?_
    refine awp_seq ?_
    refine rgs0 (⟨[(1, (Q37 a_s2)), (2, (.clo 34 [] [])), (15, (Q36 a_s1)), (16, (Q38 a_s1)), (17, (.int .i64 (0 : Int)))], [], []⟩ : St) hn mix (no_hand hΓ) (by kernel_rfl) ?_
    refine awp_block ?_
    refine awp_le (st' := (fun (i1 : Int) => (⟨[(1, (Q37 a_s2)), (2, (.clo 34 [] [])), (15, (Q36 a_s1)), (16, (Q38 a_s1)), (17, (.int .i64 i1))], [], []⟩ : St)) (0 : Int)) (Le.refl _ _) ?_
    obtain ⟨x5, hx5, h⟩ := bind_some h
    refine awp_loop (fun (i1 : Int) => (⟨[(1, (Q37 a_s2)), (2, (.clo 34 [] [])), (15, (Q36 a_s1)), (16, (Q38 a_s1)), (17, (.int .i64 i1))], [], []⟩ : St)) _ (fun (x_ : (Unit ⊕ Bool)) (e : Exit) (st : St) => match x_ with | (.inl _) => e = (.exit 0) ∧ Le Γ st (⟨[], [], []⟩ : St) | (.inr r_) => e = .ret ∧ retK Try.prog Try.f33.results.toList [] (.bool r_) [] e st) ?_ hx5 ?_
    · intro i1 y h
      unfold m_slices_EqualFunc_int_int_int_int_L1 at h
      refine rgs0 (⟨[(1, (Q37 a_s2)), (2, (.clo 34 [] [])), (15, (Q36 a_s1)), (16, (Q38 a_s1)), (17, (.int .i64 i1)), (18, (.bool (decide ((i1 : Int) < (a_s1.length : Int)))))], [], []⟩ : St) hn mix (no_hand hΓ) (by kernel_rfl) ?_
      refine awp_seq ?_
      refine awp_cond (decide ((i1 : Int) < (a_s1.length : Int))) (by kernel_rfl) (fun hb => ?_) (fun hb => ?_)
      · replace h := cond_t hb h
        clear hb
        refine awp_skip ?_
        refine then_normal ?_
        refine awp_seq ?_
        refine awp_block ?_
        obtain ⟨hc2, h⟩ := chk_some h
        refine rgs [] [] (⟨[(1, (Q37 a_s2)), (2, (.clo 34 [] [])), (7, (.int .i64 i1)), (8, (AV.list 1 eI64 (0 : Int) (a_s1.getD (i1).toNat []) .none)), (15, (Q36 a_s1)), (16, (Q38 a_s1)), (17, (.int .i64 i1))], [], []⟩ : St) [(InB i1 a_s1.length)] hn mix (no_hand hΓ) (by kernel_rfl) ⟨hc2, trivial⟩ ?_
        obtain ⟨hc3, h⟩ := chk_some h
        refine rgs [] [] (⟨[(1, (Q37 a_s2)), (2, (.clo 34 [] [])), (8, (AV.list 1 eI64 (0 : Int) (a_s1.getD (i1).toNat []) .none)), (9, (AV.list 1 eI64 (0 : Int) (a_s2.getD (i1).toNat []) .none)), (15, (Q36 a_s1)), (16, (Q38 a_s1)), (17, (.int .i64 i1))], [], []⟩ : St) [(InB i1 a_s2.length)] hn mix (no_hand hΓ) (by kernel_rfl) ⟨hc3, trivial⟩ ?_
        obtain ⟨x4, hx4, h⟩ := bind_some h
        refine rgs [⟨[], [], (.bool x4), [], []⟩] [] (⟨[(1, (Q37 a_s2)), (2, (.clo 34 [] [])), (15, (Q36 a_s1)), (16, (Q38 a_s1)), (17, (.int .i64 i1)), (30, (.bool (!x4)))], [], []⟩ : St) [(Spec Try.prog 34 [(AV.list 1 eI64 (0 : Int) (a_s1.getD (i1).toNat []) .none), (AV.list 1 eI64 (0 : Int) (a_s2.getD (i1).toNat []) .none)] [] (.bool x4) [])] hn mix (no_hand hΓ) (by kernel_rfl) ⟨(ok_slices_Equal_int_int (a_s1.getD (i1).toNat []) (a_s2.getD (i1).toNat []) x4 hx4), trivial⟩ ?_
        refine awp_cond (!x4) (by kernel_rfl) (fun hb => ?_) (fun hb => ?_)
        · replace h := cond_t hb h
          clear hb
          refine rgs0 (⟨[(6, (.bool false))], [], []⟩ : St) hn mix (no_hand hΓ) (by kernel_rfl) ?_
          refine awp_ret ?_
          refine block_ret ?_
          refine then_ret ?_
          obtain rfl := Option.some.inj h
          exact ⟨(by intro hh; cases hh), rfl, ⟨.inl rfl, [], by kernel_rfl⟩⟩
        · replace h := cond_f hb h
          clear hb
          refine awp_skip ?_
          refine block_normal ?_
          refine then_normal ?_
          refine rg0 (⟨[(1, (Q37 a_s2)), (2, (.clo 34 [] [])), (15, (Q36 a_s1)), (16, (Q38 a_s1)), (17, (.int .i64 (w64 (i1 + (1 : Int)))))], [], []⟩ : St) hn mix (no_hand hΓ) (by kernel_rfl) ?_
          obtain rfl := Option.some.inj h
          exact ⟨rfl, Le.refl _ _⟩
      · replace h := cond_f hb h
        clear hb
        refine awp_exit ?_
        refine then_exit ?_
        obtain rfl := Option.some.inj h
        exact ⟨(by intro hh; cases hh), rfl, le_restrict_eq [] [] (by kernel_rfl) (no_hand hΓ)⟩
    · clear hx5
      rcases x5 with _ | r7
      · rintro e st' ⟨rfl, hl6⟩
        refine block_here ?_
        refine then_normal ?_
        refine awp_le hl6 ?_
        refine rgs0 (⟨[(6, (.bool true))], [], []⟩ : St) hn mix (no_hand hΓ) (by kernel_rfl) ?_
        refine awp_ret ?_
        obtain rfl := Option.some.inj h
        exact ⟨.inl rfl, [], by kernel_rfl⟩
      · rintro e st' ⟨rfl, hk⟩
        refine block_ret ?_
        refine then_ret ?_
        obtain rfl := Option.some.inj h
        exact hk

noncomputable def m_graph_May (a_g : TGraph) : Option Bool :=
  ((m_graph_succMay a_g.Succ).bind fun x1 => ((bif (x1 == true) then m_graph_comers a_g.Succ else some []).bind fun x2 => ((bif (x1 == true) then m_slices_EqualFunc_int_int_int_int a_g.Pred x2 else some false).bind fun x3 => (some (bif x1 then x3 else false)))))
theorem ok_graph_May (a_g : TGraph) (r : Bool) (h : m_graph_May a_g = some r) : Spec Try.prog 22 [(.agg (eTGraph a_g))] [] (.bool r) [] := by
  refine spec_of_awp (fn := Try.f22) Try.func22 rfl rfl (by kernel_rfl) (fun Γ hn hΓ => ?_)
  have hn : Γ.n = 14 := hn
  unfold m_graph_May at h
  refine rgs0 (⟨[(1, (.ptr 1 0))], [(1, .row 26 [(AV.list 1 eLI64 [] a_g.Succ .none), (AV.list 1 eLI64 [] a_g.Pred .none)])], []⟩ : St) hn mix (no_hand hΓ) (by kernel_rfl) ?_
  obtain ⟨x1, hx1, h⟩ := bind_some h
  obtain ⟨x2, hx2, h⟩ := bind_some h
  obtain ⟨x3, hx3, h⟩ := bind_some h
  refine rgs [⟨[], [], (.bool x1), [], []⟩, ⟨[], [], (AV.list 1 eLI64 [] x2 .none), [], []⟩, ⟨[], [], (.bool x3), [], []⟩] [] (⟨[(2, (.bool (bif x1 then x3 else false)))], [], []⟩ : St) [(Spec Try.prog 17 [(AV.list 1 eLI64 [] a_g.Succ .none)] [] (.bool x1) []), ((x1 == true) = true → (x1 == true) = true), ((x1 == true) = true → (x1 == true) = true), ((x1 == true) = true → (x1 == true) = true), ((x1 == true) = true → (Spec Try.prog 19 [(AV.list 1 eLI64 [] a_g.Succ .none)] [] (AV.list 1 eLI64 [] x2 .none) [])), ((x1 == true) = true → (x1 == true) = true), ((x1 == true) = true → (x1 == true) = true), ((x1 == true) = true → (Spec Try.prog 33 [(AV.list 1 eLI64 [] a_g.Pred .none), (AV.list 1 eLI64 [] x2 .none), (.clo 34 [] [])] [] (.bool x3) [])), (x1 = true → (x1 == true) = true)] hn mix (no_hand hΓ) (by kernel_rfl) ⟨(ok_graph_succMay a_g.Succ x1 hx1), (fun hg => hg), (fun hg => hg), (fun hg => hg), (fun hg => (Spec.drop (ok_graph_comers a_g.Succ x2 (cond_t hg hx2)))), (fun hg => hg), (fun hg => hg), (fun hg => (ok_slices_EqualFunc_int_int_int_int a_g.Pred x2 x3 (cond_t hg hx3))), gT, trivial⟩ ?_
  refine awp_ret ?_
  obtain rfl := Option.some.inj h
  exact ⟨.inl rfl, [], by kernel_rfl⟩

noncomputable def Q39 : AV := (AV.list 1 eLI64 [] ([] : List (List (Int))) .exact)
noncomputable def Q40 (a_g : TGraph) : List (Nat × Own) := [(1, .row 26 [(AV.list 1 eLI64 [] a_g.Succ .none), (AV.list 1 eLI64 [] a_g.Pred .none)]), (2, .row 26 [(.slice 0 0 (fun _ => []) .exact), (.slice 0 0 (fun _ => []) .exact)])]
noncomputable def m_graph_Turned (a_g : TGraph) : Option TGraph :=
  ((m_graph_May a_g).bind fun x1 => (bif (!x1) then (some (⟨([] : List (List (Int))), ([] : List (List (Int)))⟩ : TGraph)) else ((m_graph_copied a_g.Pred).bind fun x2 => ((m_graph_copied a_g.Succ).bind fun x3 => (some (⟨x2, x3⟩ : TGraph))))))
theorem ok_graph_Turned (a_g : TGraph) (r : TGraph) (h : m_graph_Turned a_g = some r) : Spec Try.prog 21 [(.agg (eTGraph a_g))] [] (.agg (eTGraph r)) [] := by
  refine spec_of_awp (fn := Try.f21) Try.func21 rfl rfl (by kernel_rfl) (fun Γ hn hΓ => ?_)
  have hn : Γ.n = 14 := hn
  unfold m_graph_Turned at h
  refine rgs0 (⟨[(1, (.ptr 1 0)), (2, (.ptr 2 0))], (Q40 a_g), []⟩ : St) hn mix (no_hand hΓ) (by kernel_rfl) ?_
  refine awp_seq ?_
  obtain ⟨x1, hx1, h⟩ := bind_some h
  refine rgs [⟨[], [], (.bool x1), [], []⟩] [] (⟨[(1, (.ptr 1 0)), (2, (.ptr 2 0)), (5, (.bool (!x1)))], (Q40 a_g), []⟩ : St) [(Spec Try.prog 22 [(.agg (eTGraph a_g))] [] (.bool x1) [])] hn mix (no_hand hΓ) (by kernel_rfl) ⟨(ok_graph_May a_g x1 hx1), trivial⟩ ?_
  refine awp_cond (!x1) (by kernel_rfl) (fun hb => ?_) (fun hb => ?_)
  · replace h := cond_t hb h
    clear hb
    refine rgs [] [(6, (.agg [Q39, Q39]))] (⟨[(2, (.ptr 2 0))], [(2, .row 26 [Q39, Q39])], []⟩ : St) [(AVle (.agg [(.slice 0 0 (fun _ => []) .exact), (.slice 0 0 (fun _ => []) .exact)]) (.agg [Q39, Q39]))] hn mix (no_hand hΓ) (by kernel_rfl) ⟨(AVle.agg (.cons av_nil (.cons av_nil .nil))), trivial⟩ ?_
    refine awp_le (st' := (⟨[(2, (.ptr 2 0))], [(2, .row 26 [(AV.list 1 eLI64 [] ([] : List (List (Int))) .none), (AV.list 1 eLI64 [] ([] : List (List (Int))) .none)])], []⟩ : St)) (Le.trans (le_restrict_eq (st' := (⟨[(2, (.ptr 2 0))], [(2, .row 26 [Q39, Q39])], []⟩ : St)) [2] [2] (by kernel_rfl) (no_hand hΓ)) (le_of (.cons (AVle.refl _) .nil) (.row (.cons AVle.untag (.cons AVle.untag .nil)) .nil))) ?_
    refine awp_ret ?_
    refine then_ret ?_
    obtain rfl := Option.some.inj h
    exact ⟨.inl rfl, [], by kernel_rfl⟩
  · replace h := cond_f hb h
    clear hb
    refine awp_skip ?_
    refine then_normal ?_
    obtain ⟨x2, hx2, h⟩ := bind_some h
    obtain ⟨x3, hx3, h⟩ := bind_some h
    refine rgs [⟨[], [(20000, 9)], (AV.list 1 eLI64 [] x2 (.own 20000)), [(20000, .tok 1 30 x2.length)], []⟩, ⟨[], [(20000, 12)], (AV.list 1 eLI64 [] x3 (.own 20000)), [(20000, .tok 1 30 x3.length)], []⟩] [] (⟨[(2, (.ptr 2 0))], [(2, .row 26 [(AV.list 1 eLI64 [] x2 (.own 9)), (AV.list 1 eLI64 [] x3 (.own 12))]), (9, .tok 1 30 x2.length), (12, .tok 1 30 x3.length)], []⟩ : St) [(Spec Try.prog 18 [(AV.list 1 eLI64 [] a_g.Pred .none)] [] (AV.list 1 eLI64 [] x2 (.own 20000)) [(20000, .tok 1 30 x2.length)]), (Spec Try.prog 18 [(AV.list 1 eLI64 [] a_g.Succ .none)] [] (AV.list 1 eLI64 [] x3 (.own 20000)) [(20000, .tok 1 30 x3.length)])] hn mix (no_hand hΓ) (by kernel_rfl) ⟨(ok_graph_copied a_g.Pred x2 hx2), (ok_graph_copied a_g.Succ x3 hx3), trivial⟩ ?_
    refine awp_ret ?_
    obtain rfl := Option.some.inj h
    exact ⟨.inl rfl, [], by kernel_rfl⟩

noncomputable def m_slices_Reverse_int_int_L1  : (Int × Int × List (Int)) → Option (LR (Int × Int × List (Int)) (List (Int))) :=
  fun ((i1, i2, l3) : (Int × Int × List (Int))) => (bif (decide ((i1 : Int) < i2)) then (chk (InB i2 l3.length) (chk (InB i1 l3.length) (chk (InB i1 l3.length) (chk (InB i2 l3.length) (some (.next ((w64 (i1 + (1 : Int))), (w64 (i2 - (1 : Int))), ((l3.set (i1).toNat (l3.getD (i2).toNat (0 : Int))).set (i2).toNat (l3.getD (i1).toNat (0 : Int)))))))))) else (some (.done l3)))
noncomputable def Q43 (l3 : List (Int)) : List (Nat × Own) := [(34000, .arr 1 3 l3.length (fun i => eI64 (l3.getD i (0 : Int))))]
noncomputable def Q42 (l3 : List (Int)) (i1 : Int) (i2 : Int) : List (Nat × AV) := [(0, (.vsl 34000 l3.length)), (2, (.int .i64 i1)), (3, (.int .i64 i2))]
noncomputable def Q41 (l3 : List (Int)) (i1 : Int) (i2 : Int) := ((l3.set (i1).toNat (l3.getD (i2).toNat (0 : Int))).set (i2).toNat (l3.getD (i1).toNat (0 : Int)))
noncomputable def m_slices_Reverse_int_int (a_s : List (Int)) : Option (List (Int)) :=
  ((loopO (S := (Int × Int × List (Int))) (X := List (Int)) m_slices_Reverse_int_int_L1 ((0 : Int), (w64 ((a_s.length : Int) - (1 : Int))), a_s)).bind (fun x9 => ((some x9))))
theorem ok_slices_Reverse_int_int (a_s : List (Int)) (r : List (Int)) (h : m_slices_Reverse_int_int a_s = some r) : Spec Try.prog 37 [(.vsl 34000 a_s.length)] [(34000, .arr 1 3 a_s.length (fun i => eI64 (a_s.getD i (0 : Int))))] (.tuple []) [(34000, .arr 1 3 r.length (fun i => eI64 (r.getD i (0 : Int))))] := by
  refine spec_of_awp (fn := Try.f37) Try.func37 rfl rfl (by kernel_rfl) (fun Γ hn hΓ => ?_)
  have hn : Γ.n = 28 := hn
  unfold m_slices_Reverse_int_int at h
  refine awp_cl ?_
  refine rgs0 (⟨[(0, (.vsl 34000 a_s.length)), (2, (.int .i64 (0 : Int))), (3, (.int .i64 (w64 ((a_s.length : Int) - (1 : Int)))))], [(34000, .arr 1 3 a_s.length (fun i => eI64 (a_s.getD i (0 : Int))))], []⟩ : St) hn mix (hand_in hΓ rfl) (by kernel_rfl) ?_
  refine awp_block ?_
  refine awp_le (st' := (fun ((i1, i2, l3) : (Int × Int × List (Int))) => (⟨(Q42 l3 i1 i2), (Q43 l3), []⟩ : St)) ((0 : Int), (w64 ((a_s.length : Int) - (1 : Int))), a_s)) (Le.refl _ _) ?_
  obtain ⟨x9, hx9, h⟩ := bind_some h
  refine awp_loop (fun ((i1, i2, l3) : (Int × Int × List (Int))) => (⟨(Q42 l3 i1 i2), (Q43 l3), []⟩ : St)) _ (fun (l4 : List (Int)) (e : Exit) (st : St) => e = (.exit 0) ∧ Le Γ st (⟨[], [(34000, .arr 1 3 l4.length (fun i => eI64 (l4.getD i (0 : Int))))], []⟩ : St)) ?_ hx9 ?_
  · rintro ⟨i1, i2, l3⟩ y h
    unfold m_slices_Reverse_int_int_L1 at h
    refine awp_seq ?_
    refine rgs0 (⟨[(0, (.vsl 34000 l3.length)), (2, (.int .i64 i1)), (3, (.int .i64 i2)), (9, (.bool (decide ((i1 : Int) < i2))))], (Q43 l3), []⟩ : St) hn mix (hand_in hΓ rfl) (by kernel_rfl) ?_
    refine awp_cond (decide ((i1 : Int) < i2)) (by kernel_rfl) (fun hb => ?_) (fun hb => ?_)
    · replace h := cond_t hb h
      clear hb
      refine awp_skip ?_
      refine then_normal ?_
      refine awp_seq ?_
      refine awp_block ?_
      obtain ⟨hc5, h⟩ := chk_some h
      obtain ⟨hc6, h⟩ := chk_some h
      obtain ⟨hc7, h⟩ := chk_some h
      obtain ⟨hc8, h⟩ := chk_some h
      refine rg [] [] (⟨(Q42 l3 i1 i2), [(34000, .arr 1 3 l3.length (fun i_ => AV.eraseAll (fun n_ => memB n_ [34000]) ((putF (putF (fun i => eI64 (l3.getD i (0 : Int))) (i1).toNat 0 [(.int .i64 (l3.getD (i2).toNat (0 : Int)))]) (i2).toNat 0 [(.int .i64 (l3.getD (i1).toNat (0 : Int)))]) i_)))], []⟩ : St) [(InB i2 l3.length), (l3.length = l3.length), (InB i1 l3.length), (l3.length = l3.length), (InB i1 l3.length), (l3.length = l3.length), (InB i2 l3.length), (l3.length = l3.length)] hn mix (hand_in hΓ rfl) (by kernel_rfl) ⟨hc5, rfl, hc6, rfl, hc7, rfl, hc8, rfl, trivial⟩ ?_
      refine block_normal ?_
      refine then_normal ?_
      refine awp_le (Le.trans (le_of (st' := (⟨(Q42 l3 i1 i2), [(34000, .arr 1 3 l3.length (fun i => eI64 ((Q41 l3 i1 i2).getD i (0 : Int))))], []⟩ : St)) (TmpsLe.refl _) (.arr (leL_of_eq (Eq.trans (List.length_set ..).symm (List.length_set ..).symm) (fun k_ hk_ => (congrArg (AV.eraseAll (fun n_ => memB n_ [34000])) ((putF_set (putF_set (fun _ _ => rfl) (inB_lt0 hc7) rfl) (inB_lt1 hc8) rfl) k_ hk_)).trans rfl)) .nil)) (le_eq (congrArg (fun k_ : Nat => (⟨[(0, (.vsl 34000 k_)), (2, (.int .i64 i1)), (3, (.int .i64 i2))], [(34000, .arr 1 3 k_ (fun i => eI64 ((Q41 l3 i1 i2).getD i (0 : Int))))], []⟩ : St)) (show l3.length = (Q41 l3 i1 i2).length from (Eq.trans (List.length_set ..).symm (List.length_set ..).symm))))) ?_
      refine rg0 (⟨[(0, (.vsl 34000 (Q41 l3 i1 i2).length)), (2, (.int .i64 (w64 (i1 + (1 : Int))))), (3, (.int .i64 (w64 (i2 - (1 : Int)))))], [(34000, .arr 1 3 ((Q41 l3 i1 i2).length) (fun i => eI64 ((Q41 l3 i1 i2).getD i (0 : Int))))], []⟩ : St) hn mix (hand_in hΓ rfl) (by kernel_rfl) ?_
      obtain rfl := Option.some.inj h
      exact ⟨rfl, Le.refl _ _⟩
    · replace h := cond_f hb h
      clear hb
      refine awp_exit ?_
      refine then_exit ?_
      obtain rfl := Option.some.inj h
      exact ⟨(by intro hh; cases hh), rfl, le_restrict_eq [] [34000] (by kernel_rfl) (hand_in hΓ rfl)⟩
  · clear hx9
    rintro e st' ⟨rfl, hl10⟩
    refine block_here ?_
    obtain rfl := Option.some.inj h
    exact cl_of (hl10) ⟨.inr rfl, [(34000, 34000)], by kernel_rfl⟩

noncomputable def m_graph_Order_L1 (a_g : TGraph) (a_p1 : Int) : List (Int) → Option (LR (List (Int)) (List (Int) ⊕ (List (Bool) × List (Int) × List (Int)))) :=
  fun (l9 : List (Int)) => (chk (InB ([a_p1].getD ((w64 (([a_p1].length : Int) - (1 : Int)))).toNat (0 : Int)) 64) (chk (InB ([a_p1].getD ((w64 (([a_p1].length : Int) - (1 : Int)))).toNat (0 : Int)) a_g.Succ.length) (bif (decide (((l9.getD (([a_p1].getD ((w64 (([a_p1].length : Int) - (1 : Int)))).toNat (0 : Int))).toNat (0 : Int)) : Int) < ((a_g.Succ.getD (([a_p1].getD ((w64 (([a_p1].length : Int) - (1 : Int)))).toNat (0 : Int))).toNat []).length : Int))) then (chk (InB ([a_p1].getD ((w64 (([a_p1].length : Int) - (1 : Int)))).toNat (0 : Int)) a_g.Succ.length) (chk (InB ([a_p1].getD ((w64 (([a_p1].length : Int) - (1 : Int)))).toNat (0 : Int)) 64) (chk (InB (l9.getD (([a_p1].getD ((w64 (([a_p1].length : Int) - (1 : Int)))).toNat (0 : Int))).toNat (0 : Int)) (a_g.Succ.getD (([a_p1].getD ((w64 (([a_p1].length : Int) - (1 : Int)))).toNat (0 : Int))).toNat []).length) (chk (InB ([a_p1].getD ((w64 (([a_p1].length : Int) - (1 : Int)))).toNat (0 : Int)) 64) (chk (InB ([a_p1].getD ((w64 (([a_p1].length : Int) - (1 : Int)))).toNat (0 : Int)) 64) (chk (InB ((a_g.Succ.getD (([a_p1].getD ((w64 (([a_p1].length : Int) - (1 : Int)))).toNat (0 : Int))).toNat []).getD ((l9.getD (([a_p1].getD ((w64 (([a_p1].length : Int) - (1 : Int)))).toNat (0 : Int))).toNat (0 : Int))).toNat (0 : Int)) 64) (bif (!((setN 64 false (List.replicate 64 false) (a_p1).toNat true).getD (((a_g.Succ.getD (([a_p1].getD ((w64 (([a_p1].length : Int) - (1 : Int)))).toNat (0 : Int))).toNat []).getD ((l9.getD (([a_p1].getD ((w64 (([a_p1].length : Int) - (1 : Int)))).toNat (0 : Int))).toNat (0 : Int))).toNat (0 : Int))).toNat false)) then (chk (InB ((a_g.Succ.getD (([a_p1].getD ((w64 (([a_p1].length : Int) - (1 : Int)))).toNat (0 : Int))).toNat []).getD ((l9.getD (([a_p1].getD ((w64 (([a_p1].length : Int) - (1 : Int)))).toNat (0 : Int))).toNat (0 : Int))).toNat (0 : Int)) 64) (chk ([a_p1].length + ([((a_g.Succ.getD (([a_p1].getD ((w64 (([a_p1].length : Int) - (1 : Int)))).toNat (0 : Int))).toNat []).getD ((l9.getD (([a_p1].getD ((w64 (([a_p1].length : Int) - (1 : Int)))).toNat (0 : Int))).toNat (0 : Int))).toNat (0 : Int))] : List (Int)).length ≤ room) (some (.done (.inr ((setN 64 false (setN 64 false (List.replicate 64 false) (a_p1).toNat true) (((a_g.Succ.getD (([a_p1].getD ((w64 (([a_p1].length : Int) - (1 : Int)))).toNat (0 : Int))).toNat []).getD ((l9.getD (([a_p1].getD ((w64 (([a_p1].length : Int) - (1 : Int)))).toNat (0 : Int))).toNat (0 : Int))).toNat (0 : Int))).toNat true), (setN 64 (0 : Int) l9 (([a_p1].getD ((w64 (([a_p1].length : Int) - (1 : Int)))).toNat (0 : Int))).toNat (w64 ((l9.getD (([a_p1].getD ((w64 (([a_p1].length : Int) - (1 : Int)))).toNat (0 : Int))).toNat (0 : Int)) + (1 : Int)))), ([a_p1] ++ ([((a_g.Succ.getD (([a_p1].getD ((w64 (([a_p1].length : Int) - (1 : Int)))).toNat (0 : Int))).toNat []).getD ((l9.getD (([a_p1].getD ((w64 (([a_p1].length : Int) - (1 : Int)))).toNat (0 : Int))).toNat (0 : Int))).toNat (0 : Int))] : List (Int))))))))) else (some (.next (setN 64 (0 : Int) l9 (([a_p1].getD ((w64 (([a_p1].length : Int) - (1 : Int)))).toNat (0 : Int))).toNat (w64 ((l9.getD (([a_p1].getD ((w64 (([a_p1].length : Int) - (1 : Int)))).toNat (0 : Int))).toNat (0 : Int)) + (1 : Int))))))))))))) else (some (.done (.inl l9))))))
noncomputable def m_graph_Order_L2 (a_g : TGraph) (l1 : List (Bool)) (l3 : List (Int)) : List (Int) → Option (LR (List (Int)) (List (Int) ⊕ (List (Bool) × List (Int) × List (Int)))) :=
  fun (l32 : List (Int)) => (chk (InB (l3.getD ((w64 ((l3.length : Int) - (1 : Int)))).toNat (0 : Int)) 64) (chk (InB (l3.getD ((w64 ((l3.length : Int) - (1 : Int)))).toNat (0 : Int)) a_g.Succ.length) (bif (decide (((l32.getD ((l3.getD ((w64 ((l3.length : Int) - (1 : Int)))).toNat (0 : Int))).toNat (0 : Int)) : Int) < ((a_g.Succ.getD ((l3.getD ((w64 ((l3.length : Int) - (1 : Int)))).toNat (0 : Int))).toNat []).length : Int))) then (chk (InB (l3.getD ((w64 ((l3.length : Int) - (1 : Int)))).toNat (0 : Int)) a_g.Succ.length) (chk (InB (l3.getD ((w64 ((l3.length : Int) - (1 : Int)))).toNat (0 : Int)) 64) (chk (InB (l32.getD ((l3.getD ((w64 ((l3.length : Int) - (1 : Int)))).toNat (0 : Int))).toNat (0 : Int)) (a_g.Succ.getD ((l3.getD ((w64 ((l3.length : Int) - (1 : Int)))).toNat (0 : Int))).toNat []).length) (chk (InB (l3.getD ((w64 ((l3.length : Int) - (1 : Int)))).toNat (0 : Int)) 64) (chk (InB (l3.getD ((w64 ((l3.length : Int) - (1 : Int)))).toNat (0 : Int)) 64) (chk (InB ((a_g.Succ.getD ((l3.getD ((w64 ((l3.length : Int) - (1 : Int)))).toNat (0 : Int))).toNat []).getD ((l32.getD ((l3.getD ((w64 ((l3.length : Int) - (1 : Int)))).toNat (0 : Int))).toNat (0 : Int))).toNat (0 : Int)) 64) (bif (!(l1.getD (((a_g.Succ.getD ((l3.getD ((w64 ((l3.length : Int) - (1 : Int)))).toNat (0 : Int))).toNat []).getD ((l32.getD ((l3.getD ((w64 ((l3.length : Int) - (1 : Int)))).toNat (0 : Int))).toNat (0 : Int))).toNat (0 : Int))).toNat false)) then (chk (InB ((a_g.Succ.getD ((l3.getD ((w64 ((l3.length : Int) - (1 : Int)))).toNat (0 : Int))).toNat []).getD ((l32.getD ((l3.getD ((w64 ((l3.length : Int) - (1 : Int)))).toNat (0 : Int))).toNat (0 : Int))).toNat (0 : Int)) 64) (chk (l3.length + ([((a_g.Succ.getD ((l3.getD ((w64 ((l3.length : Int) - (1 : Int)))).toNat (0 : Int))).toNat []).getD ((l32.getD ((l3.getD ((w64 ((l3.length : Int) - (1 : Int)))).toNat (0 : Int))).toNat (0 : Int))).toNat (0 : Int))] : List (Int)).length ≤ room) (some (.done (.inr ((setN 64 false l1 (((a_g.Succ.getD ((l3.getD ((w64 ((l3.length : Int) - (1 : Int)))).toNat (0 : Int))).toNat []).getD ((l32.getD ((l3.getD ((w64 ((l3.length : Int) - (1 : Int)))).toNat (0 : Int))).toNat (0 : Int))).toNat (0 : Int))).toNat true), (setN 64 (0 : Int) l32 ((l3.getD ((w64 ((l3.length : Int) - (1 : Int)))).toNat (0 : Int))).toNat (w64 ((l32.getD ((l3.getD ((w64 ((l3.length : Int) - (1 : Int)))).toNat (0 : Int))).toNat (0 : Int)) + (1 : Int)))), (l3 ++ ([((a_g.Succ.getD ((l3.getD ((w64 ((l3.length : Int) - (1 : Int)))).toNat (0 : Int))).toNat []).getD ((l32.getD ((l3.getD ((w64 ((l3.length : Int) - (1 : Int)))).toNat (0 : Int))).toNat (0 : Int))).toNat (0 : Int))] : List (Int))))))))) else (some (.next (setN 64 (0 : Int) l32 ((l3.getD ((w64 ((l3.length : Int) - (1 : Int)))).toNat (0 : Int))).toNat (w64 ((l32.getD ((l3.getD ((w64 ((l3.length : Int) - (1 : Int)))).toNat (0 : Int))).toNat (0 : Int)) + (1 : Int))))))))))))) else (some (.done (.inl l32))))))
noncomputable def m_graph_Order_F3 (a_g : TGraph) : (List (Bool) × List (Int) × List (Int) × List (Int)) → Option (LR (List (Bool) × List (Int) × List (Int) × List (Int)) (List (Int))) :=
  fun (s_ : (List (Bool) × List (Int) × List (Int) × List (Int))) => match s_ with | (l1, l2, l3, l4) => (chk (InB (w64 ((l3.length : Int) - (1 : Int))) l3.length) ((loopO (S := List (Int)) (X := (List (Int) ⊕ (List (Bool) × List (Int) × List (Int)))) (m_graph_Order_L2 a_g l1 l3) l2).bind (fun x47 => (match x47 with | (.inl l33) => (chk (l4.length + ([(l3.getD ((w64 ((l3.length : Int) - (1 : Int)))).toNat (0 : Int))] : List (Int)).length ≤ room) (chk (0 ≤ (w64 ((l3.length : Int) - (1 : Int))) ∧ 0 + ((w64 ((l3.length : Int) - (1 : Int)))).toNat ≤ l3.length) (bif (decide (((0 : Int) : Int) < ((l3.take ((w64 ((l3.length : Int) - (1 : Int)))).toNat).length : Int))) then (some (.next (l1, l33, (l3.take ((w64 ((l3.length : Int) - (1 : Int)))).toNat), (l4 ++ ([(l3.getD ((w64 ((l3.length : Int) - (1 : Int)))).toNat (0 : Int))] : List (Int)))))) else ((m_slices_Reverse_int_int (l4 ++ ([(l3.getD ((w64 ((l3.length : Int) - (1 : Int)))).toNat (0 : Int))] : List (Int)))).bind fun x51 => (chk ((l4 ++ ([(l3.getD ((w64 ((l3.length : Int) - (1 : Int)))).toNat (0 : Int))] : List (Int))).length = x51.length) (some (.done x51))))))) | (.inr (l34, l35, l36)) => (some (.next (l34, l35, l36, l4)))))))
noncomputable def Q91 (l4 : List (Int)) : AV := (.vsl 36007 l4.length)
noncomputable def Q79 := (([] : List Int).length)
noncomputable def Q65 (l3 : List (Int)) := (w64 ((l3.length : Int) - (1 : Int)))
noncomputable def Q45 (l3 : List (Int)) := (l3.getD ((Q65 l3)).toNat (0 : Int))
noncomputable def Q87 (l3 : List (Int)) := ([(Q45 l3)] : List (Int))
noncomputable def Q89 (l3 : List (Int)) := (l3.take ((Q65 l3)).toNat)
noncomputable def Q55 (l1 : List (Bool)) := (fun i => eB (l1.getD i false))
noncomputable def Q63 (a_p1 : Int) := (w64 (([a_p1].length : Int) - (1 : Int)))
noncomputable def Q86 (a_p1 : Int) := ([a_p1].take ((Q63 a_p1)).toNat)
noncomputable def Q62 (l4 : List (Int)) (l3 : List (Int)) := (l4 ++ (Q87 l3))
noncomputable def Q57 (a_g : TGraph) (l3 : List (Int)) (l32 : List (Int)) := ((a_g.Succ.getD ((Q45 l3)).toNat []).getD ((l32.getD ((Q45 l3)).toNat (0 : Int))).toNat (0 : Int))
noncomputable def Q72 (a_g : TGraph) (l3 : List (Int)) (l32 : List (Int)) := ([(Q57 a_g l3 l32)] : List (Int))
noncomputable def Q44 (a_p1 : Int) := ([a_p1].getD ((Q63 a_p1)).toNat (0 : Int))
noncomputable def Q56 (a_g : TGraph) (a_p1 : Int) (l9 : List (Int)) := ((a_g.Succ.getD ((Q44 a_p1)).toNat []).getD ((l9.getD ((Q44 a_p1)).toNat (0 : Int))).toNat (0 : Int))
noncomputable def Q71 (a_g : TGraph) (a_p1 : Int) (l9 : List (Int)) := ([(Q56 a_g a_p1 l9)] : List (Int))
noncomputable def Q81 : AV := (.vsl 36007 ([] : List Int).length)
noncomputable def Q52 (l3 : List (Int)) := (fun i => eI64 (l3.getD i (0 : Int)))
noncomputable def Q54 (l4 : List (Int)) := (fun i => eI64 (l4.getD i (0 : Int)))
noncomputable def Q76 (l10 : List (Int)) := (fun i => eI64 (l10.getD i (0 : Int)))
noncomputable def Q77 (l33 : List (Int)) := (fun i => eI64 (l33.getD i (0 : Int)))
noncomputable def Q83 (x28 : List (Int)) := (fun i => eI64 (x28.getD i (0 : Int)))
noncomputable def Q84 (x51 : List (Int)) := (fun i => eI64 (x51.getD i (0 : Int)))
noncomputable def Q53 := (fun n_ => memB n_ [2, 5, 6, 25, 36007])
noncomputable def Q49 (a_p1 : Int) := (fun i => eI64 ([a_p1].getD i (0 : Int)))
noncomputable def Q58 (a_p1 : Int) := (([] : List Int) ++ ([(Q44 a_p1)] : List (Int)))
noncomputable def Q74 (a_p1 : Int) := (fun i => eI64 ((Q58 a_p1).getD i (0 : Int)))
noncomputable def Q73 (l4 : List (Int)) (l3 : List (Int)) := (fun i => eI64 ((Q62 l4 l3).getD i (0 : Int)))
noncomputable def Q50 : AV := (AV.list 1 eI64 (0 : Int) ([] : List Int) .exact)
noncomputable def Q48 := (fun i => eI64 (([] : List Int).getD i (0 : Int)))
noncomputable def Q82 := (fun i => eB ((List.replicate 64 false).getD i false))
noncomputable def Q78 (a_p1 : Int) := (([] : List Int).length + ([(Q44 a_p1)] : List (Int)).length)
noncomputable def Q51 := (fun i => eI64 ((List.replicate 64 (0 : Int)).getD i (0 : Int)))
noncomputable def Q46 (a_g : TGraph) : List AV := [(AV.list 1 eLI64 [] a_g.Succ .none), (AV.list 1 eLI64 [] a_g.Pred .none)]
noncomputable def Q80 (l1 : List (Bool)) (a_g : TGraph) (l3 : List (Int)) (l32 : List (Int)) := (fun i => eB ((setN 64 false l1 ((Q57 a_g l3 l32)).toNat true).getD i false))
noncomputable def Q47 (a_p1 : Int) := (fun i => eB ((setN 64 false (List.replicate 64 false) (a_p1).toNat true).getD i false))
noncomputable def Q85 (a_p1 : Int) : List (Nat × AV) := [(1, (.int .i64 a_p1)), (2, (.ptr 2 0)), (5, (.vpt 5 64 0 0)), (6, (.vpt 6 64 0 0)), (7, Q50)]
noncomputable def Q90 (a_p1 : Int) : List (Nat × AV) := [(2, (.ptr 2 0)), (5, (.vpt 5 64 0 0)), (6, (.vpt 6 64 0 0)), (7, (.vsl 36007 (Q78 a_p1))), (8, (.vsl 25 [a_p1].length))]
noncomputable def Q60 (l32 : List (Int)) (l3 : List (Int)) := (fun i => eI64 ((setN 64 (0 : Int) l32 ((Q45 l3)).toNat (w64 ((l32.getD ((Q45 l3)).toNat (0 : Int)) + (1 : Int)))).getD i (0 : Int)))
noncomputable def Q59 (l9 : List (Int)) (a_p1 : Int) := (fun i => eI64 ((setN 64 (0 : Int) l9 ((Q44 a_p1)).toNat (w64 ((l9.getD ((Q44 a_p1)).toNat (0 : Int)) + (1 : Int)))).getD i (0 : Int)))
noncomputable def Q69 (a_p1 : Int) (a_g : TGraph) (l9 : List (Int)) := (fun i => eB ((setN 64 false (setN 64 false (List.replicate 64 false) (a_p1).toNat true) ((Q56 a_g a_p1 l9)).toNat true).getD i false))
noncomputable def Q88 (a_p1 : Int) : List (Nat × AV) := [(2, (.ptr 2 0)), (5, (.vpt 5 64 0 0)), (6, (.vpt 6 64 0 0)), (7, (.vsl 36007 (Q58 a_p1).length)), (8, (.vsl 25 (0 + ((Q63 a_p1)).toNat)))]
noncomputable def Q67 (l4 : List (Int)) (l3 : List (Int)) : List (Nat × AV) := [(2, (.ptr 2 0)), (5, (.vpt 5 64 0 0)), (6, (.vpt 6 64 0 0)), (7, (Q91 l4)), (8, (.vsl 25 l3.length)), (9, (.int .i64 (Q45 l3)))]
noncomputable def Q66 (a_p1 : Int) : List (Nat × AV) := [(2, (.ptr 2 0)), (5, (.vpt 5 64 0 0)), (6, (.vpt 6 64 0 0)), (7, Q81), (8, (.vsl 25 [a_p1].length)), (9, (.int .i64 (Q44 a_p1)))]
noncomputable def Q70 (l4 : List (Int)) (l3 : List (Int)) (a_g : TGraph) (l32 : List (Int)) : List (Nat × AV) := [(2, (.ptr 2 0)), (5, (.vpt 5 64 0 0)), (6, (.vpt 6 64 0 0)), (7, (Q91 l4)), (8, (.vsl 25 l3.length)), (9, (.int .i64 (Q45 l3))), (10, (.int .i64 (Q57 a_g l3 l32)))]
noncomputable def Q64 (a_g : TGraph) (l1 : List (Bool)) (l32 : List (Int)) (l3 : List (Int)) (l4 : List (Int)) : List (Nat × Own) := [(2, .row 26 (Q46 a_g)), (5, .arr 1 44 64 (Q55 l1)), (6, .arr 1 56 64 (fun i => eI64 (l32.getD i (0 : Int)))), (25, .arr 1 3 l3.length (Q52 l3)), (36007, .arr 1 3 l4.length (Q54 l4))]
noncomputable def Q68 (a_p1 : Int) (a_g : TGraph) (l9 : List (Int)) : List (Nat × AV) := [(2, (.ptr 2 0)), (5, (.vpt 5 64 0 0)), (6, (.vpt 6 64 0 0)), (7, Q81), (8, (.vsl 25 [a_p1].length)), (9, (.int .i64 (Q44 a_p1))), (10, (.int .i64 (Q56 a_g a_p1 l9)))]
noncomputable def Q61 (a_g : TGraph) (a_p1 : Int) (l9 : List (Int)) : List (Nat × Own) := [(2, .row 26 (Q46 a_g)), (5, .arr 1 44 64 (Q47 a_p1)), (6, .arr 1 56 64 (fun i => eI64 (l9.getD i (0 : Int)))), (25, .arr 1 3 ([a_p1].length) (Q49 a_p1)), (36007, .arr 1 3 Q79 Q48)]
noncomputable def Q75 (a_p1 : Int) (a_g : TGraph) := (⟨[(2, (.ptr 2 0)), (5, (.vpt 5 64 0 0)), (6, (.vpt 6 64 0 0)), (7, Q50), (8, (.vsl 25 [a_p1].length)), (9, (.int .i64 (Q44 a_p1)))], [(2, .row 26 (Q46 a_g)), (5, .arr 1 44 64 (Q47 a_p1)), (6, .arr 1 56 64 Q51), (25, .arr 1 3 ([a_p1].length) (Q49 a_p1))], []⟩ : St)
noncomputable def m_graph_Order (a_g : TGraph) (a_p1 : Int) : Option (List (Int)) :=
  ((scopeO (S := (List (Bool) × List (Int) × List (Int) × List (Int))) (X := List (Int)) ((m_graph_May a_g).bind fun x5 => ((bif ((!x5) == false) then m_graph_isPlace a_p1 (a_g.Succ.length : Int) else some false).bind fun x6 => (bif (bif (!x5) then true else (!x6)) then (some (.done ([] : List Int))) else (chk (InB a_p1 64) (chk (InB (w64 (([a_p1].length : Int) - (1 : Int))) [a_p1].length) ((loopO (S := List (Int)) (X := (List (Int) ⊕ (List (Bool) × List (Int) × List (Int)))) (m_graph_Order_L1 a_g a_p1) (List.replicate 64 (0 : Int))).bind (fun x24 => (match x24 with | (.inl l10) => (chk (([] : List Int).length + ([([a_p1].getD ((w64 (([a_p1].length : Int) - (1 : Int)))).toNat (0 : Int))] : List (Int)).length ≤ room) (chk (0 ≤ (w64 (([a_p1].length : Int) - (1 : Int))) ∧ 0 + ((w64 (([a_p1].length : Int) - (1 : Int)))).toNat ≤ [a_p1].length) (bif (decide (((0 : Int) : Int) < (([a_p1].take ((w64 (([a_p1].length : Int) - (1 : Int)))).toNat).length : Int))) then (some (.next ((setN 64 false (List.replicate 64 false) (a_p1).toNat true), l10, ([a_p1].take ((w64 (([a_p1].length : Int) - (1 : Int)))).toNat), (([] : List Int) ++ ([([a_p1].getD ((w64 (([a_p1].length : Int) - (1 : Int)))).toNat (0 : Int))] : List (Int)))))) else ((m_slices_Reverse_int_int (([] : List Int) ++ ([([a_p1].getD ((w64 (([a_p1].length : Int) - (1 : Int)))).toNat (0 : Int))] : List (Int)))).bind fun x28 => (chk ((([] : List Int) ++ ([([a_p1].getD ((w64 (([a_p1].length : Int) - (1 : Int)))).toNat (0 : Int))] : List (Int))).length = x28.length) (some (.done x28))))))) | (.inr (l11, l12, l13)) => (some (.next (l11, l12, l13, ([] : List Int)))))))))))) (m_graph_Order_F3 a_g)).bind (fun x54 => ((some x54))))
theorem ok_graph_Order (a_g : TGraph) (a_p1 : Int) (r : List (Int)) (h : m_graph_Order a_g a_p1 = some r) : Spec Try.prog 30 [(.agg (eTGraph a_g)), (.int .i64 a_p1)] [] (AV.list 1 eI64 (0 : Int) r (.own 20000)) [(20000, .tok 1 3 r.length)] := by
  refine spec_of_awp (fn := Try.f30) Try.func30 rfl rfl (by kernel_rfl) (fun Γ hn hΓ => ?_)
  have hn : Γ.n = 82 := hn
  unfold m_graph_Order at h
  refine rgs [] [(4, Q50)] (⟨[(1, (.int .i64 a_p1)), (2, (.ptr 2 0))], [(2, .row 26 (Q46 a_g))], []⟩ : St) [(AVle (.slice 0 0 (fun _ => []) .exact) Q50)] hn mix (no_hand hΓ) (by kernel_rfl) ⟨av_nil, trivial⟩ ?_
  obtain ⟨x54, hx54, h⟩ := bind_some h
  refine awp_scope (S := (List (Bool) × List (Int) × List (Int) × List (Int))) (X := List (Int)) (fun (s_ : (List (Bool) × List (Int) × List (Int) × List (Int))) => match s_ with | (l1, l2, l3, l4) => 0) (fun (s_ : (List (Bool) × List (Int) × List (Int) × List (Int))) => match s_ with | (l1, l2, l3, l4) => (⟨[(2, (.ptr 2 0)), (5, (.vpt 5 64 0 0)), (6, (.vpt 6 64 0 0)), (7, (Q91 l4)), (8, (.vsl 25 l3.length))], [(2, .row 26 (Q46 a_g)), (5, .arr 1 44 64 (Q55 l1)), (6, .arr 1 56 64 (fun i => eI64 (l2.getD i (0 : Int)))), (25, .arr 1 3 l3.length (Q52 l3)), (36007, .arr 1 3 l4.length (Q54 l4))], []⟩ : St)) _ _ (fun (r_ : List (Int)) (e : Exit) (st : St) => e = .ret ∧ retK Try.prog Try.f30.results.toList [] (AV.list 1 eI64 (0 : Int) r_ (.own 20000)) [(20000, .tok 1 3 r_.length)] e st) ?_ ?_ hx54 ?_
  · clear h hx54
    intro y h
    refine awp_seq ?_
    obtain ⟨x5, hx5, h⟩ := bind_some h
    obtain ⟨x6, hx6, h⟩ := bind_some h
    refine rgs [⟨[], [], (.bool x5), [], []⟩, ⟨[], [], (.bool x6), [], []⟩] [] (⟨[(1, (.int .i64 a_p1)), (2, (.ptr 2 0)), (21, (.bool (bif (!x5) then true else (!x6))))], [(2, .row 26 (Q46 a_g))], []⟩ : St) [(Spec Try.prog 22 [(.agg (eTGraph a_g))] [] (.bool x5) []), (((!x5) == false) = true → ((!x5) == false) = true), (((!x5) == false) = true → ((!x5) == false) = true), (((!x5) == false) = true → ((!x5) == false) = true), (((!x5) == false) = true → ((!x5) == false) = true), (((!x5) == false) = true → (Spec Try.prog 29 [(.int .i64 a_p1), (.int .i64 (a_g.Succ.length : Int))] [] (.bool x6) [])), (((!x5) == false) = true → ((!x5) == false) = true), ((!x5) = false → ((!x5) == false) = true)] hn mix (no_hand hΓ) (by kernel_rfl) ⟨(ok_graph_May a_g x5 hx5), (fun hg => hg), (fun hg => hg), (fun hg => hg), (fun hg => hg), (fun hg => (ok_graph_isPlace a_p1 (a_g.Succ.length : Int) x6 (cond_t hg hx6))), (fun hg => hg), gF, trivial⟩ ?_
    refine awp_cond (bif (!x5) then true else (!x6)) (by kernel_rfl) (fun hb => ?_) (fun hb => ?_)
    · replace h := cond_t hb h
      clear hb
      refine rgs [] [(4, Q50)] (⟨[(4, Q50)], [], []⟩ : St) [(AVle (.slice 0 0 (fun _ => []) .exact) Q50)] hn mix (no_hand hΓ) (by kernel_rfl) ⟨av_nil, trivial⟩ ?_
      refine awp_le (st' := (⟨[(4, (AV.list 1 eI64 (0 : Int) ([] : List Int) (.own 6004)))], [(6004, .tok 1 3 Q79)], []⟩ : St)) (Le.trans (le_restrict_eq (st' := (⟨[(4, Q50)], [], []⟩ : St)) [4] [] (by kernel_rfl) (no_hand hΓ)) (Le.trans (le_tag (t := 4) (nm := 6004) (sz' := 1) Q48 3 rfl rfl (.inl ⟨rfl, rfl⟩) (fun h_ => absurd h_ (by decide))) (le_restrict_eq (st' := (⟨[(4, (AV.list 1 eI64 (0 : Int) ([] : List Int) (.own 6004)))], [(6004, .tok 1 3 Q79)], []⟩ : St)) [4] [6004] (by kernel_rfl) (no_hand hΓ)))) ?_
      refine awp_ret ?_
      refine then_ret ?_
      obtain rfl := Option.some.inj h
      exact ⟨(by intro l hh; cases hh), rfl, ⟨.inl rfl, [(6004, 20000)], by kernel_rfl⟩⟩
    · replace h := cond_f hb h
      clear hb
      refine awp_skip ?_
      refine then_normal ?_
      refine rgs [] [(5, (.vpt 5 64 0 0))] (⟨[(1, (.int .i64 a_p1)), (2, (.ptr 2 0)), (5, (.vpt 5 64 0 0))], [(2, .row 26 (Q46 a_g)), (5, .arr 1 44 64 (fun i_ => AV.eraseAll (fun n_ => memB n_ [2, 5]) ((fun i => (((List.replicate 64 [(.bool false)]).flatten).drop (i * 1)).take 1) i_)))], []⟩ : St) [] hn mix (no_hand hΓ) (by kernel_rfl) trivial ?_
      refine awp_le (le_of (st' := (⟨[(1, (.int .i64 a_p1)), (2, (.ptr 2 0)), (5, (.vpt 5 64 0 0))], [(2, .row 26 (Q46 a_g)), (5, .arr 1 44 64 Q82)], []⟩ : St)) (TmpsLe.refl _) (.same (.arr (arrE_zero (e := eB) (d := false) (z := [(.bool false)]) rfl rfl rfl) .nil))) ?_
      refine rgs [] [(6, (.vpt 6 64 0 0))] (⟨[(1, (.int .i64 a_p1)), (2, (.ptr 2 0)), (5, (.vpt 5 64 0 0)), (6, (.vpt 6 64 0 0))], [(2, .row 26 (Q46 a_g)), (5, .arr 1 44 64 Q82), (6, .arr 1 56 64 (fun i_ => AV.eraseAll (fun n_ => memB n_ [2, 5, 6]) ((fun i => (((List.replicate 64 [(.int .i64 (0 : Int))]).flatten).drop (i * 1)).take 1) i_)))], []⟩ : St) [] hn mix (no_hand hΓ) (by kernel_rfl) trivial ?_
      refine awp_le (le_of (st' := (⟨[(1, (.int .i64 a_p1)), (2, (.ptr 2 0)), (5, (.vpt 5 64 0 0)), (6, (.vpt 6 64 0 0))], [(2, .row 26 (Q46 a_g)), (5, .arr 1 44 64 Q82), (6, .arr 1 56 64 Q51)], []⟩ : St)) (TmpsLe.refl _) (.same (.same (.arr (arrE_zero (e := eI64) (d := (0 : Int)) (z := [(.int .i64 (0 : Int))]) rfl rfl rfl) .nil)))) ?_
      refine rgs [] [(7, Q50)] (⟨(Q85 a_p1), [(2, .row 26 (Q46 a_g)), (5, .arr 1 44 64 Q82), (6, .arr 1 56 64 Q51)], []⟩ : St) [(AVle (.slice 0 0 (fun _ => []) .exact) Q50)] hn mix (no_hand hΓ) (by kernel_rfl) ⟨av_nil, trivial⟩ ?_
      obtain ⟨hc7, h⟩ := chk_some h
      refine rgs [] [] (⟨(Q85 a_p1), [(2, .row 26 (Q46 a_g)), (5, .arr 1 44 64 (fun i_ => AV.eraseAll (fun n_ => memB n_ [2, 5, 6]) ((putF Q82 (a_p1).toNat 0 [(.bool true)]) i_))), (6, .arr 1 56 64 Q51)], []⟩ : St) [(InB a_p1 64), (64 = 64)] hn mix (no_hand hΓ) (by kernel_rfl) ⟨hc7, rfl, trivial⟩ ?_
      refine awp_le (le_of (st' := (⟨(Q85 a_p1), [(2, .row 26 (Q46 a_g)), (5, .arr 1 44 64 (Q47 a_p1)), (6, .arr 1 56 64 Q51)], []⟩ : St)) (TmpsLe.refl _) (.same (.arr (leL_of_eq rfl (fun k_ hk_ => (congrArg (AV.eraseAll (fun n_ => memB n_ [2, 5, 6])) ((putF_setN (fun _ _ => rfl) (inB_lit hc7) rfl) k_ hk_)).trans rfl)) (.same .nil)))) ?_
      refine rgs [] [(25, (.vsl 25 1))] (⟨[(2, (.ptr 2 0)), (5, (.vpt 5 64 0 0)), (6, (.vpt 6 64 0 0)), (7, Q50), (8, (.vsl 25 1))], [(2, .row 26 (Q46 a_g)), (5, .arr 1 44 64 (Q47 a_p1)), (6, .arr 1 56 64 Q51), (25, .arr 1 3 1 (fun i_ => AV.eraseAll (fun n_ => memB n_ [2, 5, 6, 25]) ((fun i_ => ([(.int .i64 a_p1)].drop (i_ * 1)).take 1) i_)))], []⟩ : St) [] hn mix (no_hand hΓ) (by kernel_rfl) trivial ?_
      refine awp_le (Le.trans (le_of (st' := (⟨[(2, (.ptr 2 0)), (5, (.vpt 5 64 0 0)), (6, (.vpt 6 64 0 0)), (7, Q50), (8, (.vsl 25 1))], [(2, .row 26 (Q46 a_g)), (5, .arr 1 44 64 (Q47 a_p1)), (6, .arr 1 56 64 Q51), (25, .arr 1 3 1 (Q49 a_p1))], []⟩ : St)) (TmpsLe.refl _) (.same (.same (.same (.arr (leL_of_eq rfl (pw_snoc (n := 0) pw_nil rfl)) .nil))))) (le_eq (congrArg (fun k_ : Nat => (⟨[(2, (.ptr 2 0)), (5, (.vpt 5 64 0 0)), (6, (.vpt 6 64 0 0)), (7, Q50), (8, (.vsl 25 k_))], [(2, .row 26 (Q46 a_g)), (5, .arr 1 44 64 (Q47 a_p1)), (6, .arr 1 56 64 Q51), (25, .arr 1 3 k_ (Q49 a_p1))], []⟩ : St)) (show 1 = [a_p1].length from rfl)))) ?_
      refine awp_seq ?_
      refine awp_label ?_
      refine then_normal ?_
      obtain ⟨hc8, h⟩ := chk_some h
      refine rgs [] [] (Q75 a_p1 a_g) [(InB (Q63 a_p1) [a_p1].length), ([a_p1].length = [a_p1].length)] hn mix (no_hand hΓ) (by kernel_rfl) ⟨hc8, rfl, trivial⟩ ?_
      refine awp_seq ?_
      refine awp_block ?_
      refine awp_le (st' := (fun (l9 : List (Int)) => (⟨(Q66 a_p1), (Q61 a_g a_p1 l9), []⟩ : St)) (List.replicate 64 (0 : Int))) (Le.trans (le_restrict_eq (st' := (Q75 a_p1 a_g)) [2, 5, 6, 7, 8, 9] [2, 5, 6, 25] (by kernel_rfl) (no_hand hΓ)) (Le.trans (le_arr (t := 7) (nm := 36007) (sz' := 1) Q48 3 rfl rfl) (le_restrict_eq (st' := (⟨(Q66 a_p1), [(2, .row 26 (Q46 a_g)), (5, .arr 1 44 64 (Q47 a_p1)), (6, .arr 1 56 64 Q51), (25, .arr 1 3 ([a_p1].length) (Q49 a_p1)), (36007, .arr 1 3 Q79 Q48)], []⟩ : St)) [2, 5, 6, 7, 8, 9] [2, 5, 6, 25, 36007] (by kernel_rfl) (no_hand hΓ)))) ?_
      obtain ⟨x24, hx24, h⟩ := bind_some h
      refine awp_loop (fun (l9 : List (Int)) => (⟨(Q66 a_p1), (Q61 a_g a_p1 l9), []⟩ : St)) _ (fun (x_ : (List (Int) ⊕ (List (Bool) × List (Int) × List (Int)))) (e : Exit) (st : St) => match x_ with | (.inl l10) => e = (.exit 0) ∧ Le Γ st (⟨(Q66 a_p1), [(2, .row 26 (Q46 a_g)), (5, .arr 1 44 64 (Q47 a_p1)), (6, .arr 1 56 64 (Q76 l10)), (25, .arr 1 3 ([a_p1].length) (Q49 a_p1)), (36007, .arr 1 3 Q79 Q48)], []⟩ : St) | (.inr (l11, l12, l13)) => e = (.goto 0) ∧ Le Γ st (⟨[(2, (.ptr 2 0)), (5, (.vpt 5 64 0 0)), (6, (.vpt 6 64 0 0)), (7, Q81), (8, (.vsl 25 l13.length))], [(2, .row 26 (Q46 a_g)), (5, .arr 1 44 64 (fun i => eB (l11.getD i false))), (6, .arr 1 56 64 (fun i => eI64 (l12.getD i (0 : Int)))), (25, .arr 1 3 l13.length (fun i => eI64 (l13.getD i (0 : Int)))), (36007, .arr 1 3 Q79 Q48)], []⟩ : St)) ?_ hx24 ?_
      · intro l9 y h
        unfold m_graph_Order_L1 at h
        refine awp_seq ?_
        obtain ⟨hc14, h⟩ := chk_some h
        obtain ⟨hc15, h⟩ := chk_some h
        refine rgs [] [] (⟨[(2, (.ptr 2 0)), (5, (.vpt 5 64 0 0)), (6, (.vpt 6 64 0 0)), (7, Q81), (8, (.vsl 25 [a_p1].length)), (9, (.int .i64 (Q44 a_p1))), (41, (.bool (decide (((l9.getD ((Q44 a_p1)).toNat (0 : Int)) : Int) < ((a_g.Succ.getD ((Q44 a_p1)).toNat []).length : Int)))))], (Q61 a_g a_p1 l9), []⟩ : St) [(InB (Q44 a_p1) 64), (64 = 64), (InB (Q44 a_p1) a_g.Succ.length)] hn mix (no_hand hΓ) (by kernel_rfl) ⟨hc14, rfl, hc15, trivial⟩ ?_
        refine awp_cond (decide (((l9.getD ((Q44 a_p1)).toNat (0 : Int)) : Int) < ((a_g.Succ.getD ((Q44 a_p1)).toNat []).length : Int))) (by kernel_rfl) (fun hb => ?_) (fun hb => ?_)
        · replace h := cond_t hb h
          clear hb
          refine awp_skip ?_
          refine then_normal ?_
          refine awp_block ?_
          obtain ⟨hc16, h⟩ := chk_some h
          obtain ⟨hc17, h⟩ := chk_some h
          obtain ⟨hc18, h⟩ := chk_some h
          refine rgs [] [] (⟨(Q68 a_p1 a_g l9), (Q61 a_g a_p1 l9), []⟩ : St) [(InB (Q44 a_p1) a_g.Succ.length), (InB (Q44 a_p1) 64), (64 = 64), (InB (l9.getD ((Q44 a_p1)).toNat (0 : Int)) (a_g.Succ.getD ((Q44 a_p1)).toNat []).length)] hn mix (no_hand hΓ) (by kernel_rfl) ⟨hc16, hc17, rfl, hc18, trivial⟩ ?_
          obtain ⟨hc19, h⟩ := chk_some h
          obtain ⟨hc20, h⟩ := chk_some h
          refine rgs [] [] (⟨(Q68 a_p1 a_g l9), [(2, .row 26 (Q46 a_g)), (5, .arr 1 44 64 (Q47 a_p1)), (6, .arr 1 56 64 (fun i_ => AV.eraseAll Q53 ((putF (fun i => eI64 (l9.getD i (0 : Int))) ((Q44 a_p1)).toNat 0 [(.int .i64 (w64 ((l9.getD ((Q44 a_p1)).toNat (0 : Int)) + (1 : Int))))]) i_))), (25, .arr 1 3 ([a_p1].length) (Q49 a_p1)), (36007, .arr 1 3 Q79 Q48)], []⟩ : St) [(InB (Q44 a_p1) 64), (64 = 64), (InB (Q44 a_p1) 64), (64 = 64)] hn mix (no_hand hΓ) (by kernel_rfl) ⟨hc19, rfl, hc20, rfl, trivial⟩ ?_
          refine awp_le (le_of (st' := (⟨(Q68 a_p1 a_g l9), [(2, .row 26 (Q46 a_g)), (5, .arr 1 44 64 (Q47 a_p1)), (6, .arr 1 56 64 (Q59 l9 a_p1)), (25, .arr 1 3 ([a_p1].length) (Q49 a_p1)), (36007, .arr 1 3 Q79 Q48)], []⟩ : St)) (TmpsLe.refl _) (.same (.same (.arr (leL_of_eq rfl (fun k_ hk_ => (congrArg (AV.eraseAll Q53) ((putF_setN (fun _ _ => rfl) (inB_lit hc20) rfl) k_ hk_)).trans rfl)) (.same (.same .nil)))))) ?_
          obtain ⟨hc21, h⟩ := chk_some h
          refine rgs [] [] (⟨[(2, (.ptr 2 0)), (5, (.vpt 5 64 0 0)), (6, (.vpt 6 64 0 0)), (7, Q81), (8, (.vsl 25 [a_p1].length)), (9, (.int .i64 (Q44 a_p1))), (10, (.int .i64 (Q56 a_g a_p1 l9))), (60, (.bool (!((setN 64 false (List.replicate 64 false) (a_p1).toNat true).getD ((Q56 a_g a_p1 l9)).toNat false))))], [(2, .row 26 (Q46 a_g)), (5, .arr 1 44 64 (Q47 a_p1)), (6, .arr 1 56 64 (Q59 l9 a_p1)), (25, .arr 1 3 ([a_p1].length) (Q49 a_p1)), (36007, .arr 1 3 Q79 Q48)], []⟩ : St) [(InB (Q56 a_g a_p1 l9) 64), (64 = 64)] hn mix (no_hand hΓ) (by kernel_rfl) ⟨hc21, rfl, trivial⟩ ?_
          refine awp_cond (!((setN 64 false (List.replicate 64 false) (a_p1).toNat true).getD ((Q56 a_g a_p1 l9)).toNat false)) (by kernel_rfl) (fun hb => ?_) (fun hb => ?_)
          · replace h := cond_t hb h
            clear hb
            obtain ⟨hc22, h⟩ := chk_some h
            refine rgs [] [] (⟨[(2, (.ptr 2 0)), (5, (.vpt 5 64 0 0)), (6, (.vpt 6 64 0 0)), (7, Q81), (8, (.vsl 25 [a_p1].length)), (10, (.int .i64 (Q56 a_g a_p1 l9)))], [(2, .row 26 (Q46 a_g)), (5, .arr 1 44 64 (fun i_ => AV.eraseAll Q53 ((putF (Q47 a_p1) ((Q56 a_g a_p1 l9)).toNat 0 [(.bool true)]) i_))), (6, .arr 1 56 64 (Q59 l9 a_p1)), (25, .arr 1 3 ([a_p1].length) (Q49 a_p1)), (36007, .arr 1 3 Q79 Q48)], []⟩ : St) [(InB (Q56 a_g a_p1 l9) 64), (64 = 64)] hn mix (no_hand hΓ) (by kernel_rfl) ⟨hc22, rfl, trivial⟩ ?_
            refine awp_le (le_of (st' := (⟨[(2, (.ptr 2 0)), (5, (.vpt 5 64 0 0)), (6, (.vpt 6 64 0 0)), (7, Q81), (8, (.vsl 25 [a_p1].length)), (10, (.int .i64 (Q56 a_g a_p1 l9)))], [(2, .row 26 (Q46 a_g)), (5, .arr 1 44 64 (Q69 a_p1 a_g l9)), (6, .arr 1 56 64 (Q59 l9 a_p1)), (25, .arr 1 3 ([a_p1].length) (Q49 a_p1)), (36007, .arr 1 3 Q79 Q48)], []⟩ : St)) (TmpsLe.refl _) (.same (.arr (leL_of_eq rfl (fun k_ hk_ => (congrArg (AV.eraseAll Q53) ((putF_setN (fun _ _ => rfl) (inB_lit hc22) rfl) k_ hk_)).trans rfl)) (.same (.same (.same .nil)))))) ?_
            obtain ⟨hc23, h⟩ := chk_some h
            refine rgs [] [(65, (AV.list 1 eI64 (0 : Int) (Q71 a_g a_p1 l9) .exact))] (⟨[(2, (.ptr 2 0)), (5, (.vpt 5 64 0 0)), (6, (.vpt 6 64 0 0)), (7, Q81), (8, (.vsl 25 ([a_p1].length + (Q71 a_g a_p1 l9).length)))], [(2, .row 26 (Q46 a_g)), (5, .arr 1 44 64 (Q69 a_p1 a_g l9)), (6, .arr 1 56 64 (Q59 l9 a_p1)), (25, .arr 1 3 ([a_p1].length + (Q71 a_g a_p1 l9).length) (fun i_ => AV.eraseAll Q53 ((appF ([a_p1].length) (Q49 a_p1) (fun i => eI64 ((Q71 a_g a_p1 l9).getD i (0 : Int)))) i_))), (36007, .arr 1 3 Q79 Q48)], []⟩ : St) [(AVle (.slice 1 1 (fun i => ([[(.int .i64 (Q56 a_g a_p1 l9))]] : List (List AV)).getD i []) .exact) (AV.list 1 eI64 (0 : Int) (Q71 a_g a_p1 l9) .exact)), ([a_p1].length = [a_p1].length), ([a_p1].length + (Q71 a_g a_p1 l9).length ≤ room)] hn mix (no_hand hΓ) (by kernel_rfl) ⟨(av_lit rfl (fun i hi => map_get (e := eI64) (d := (0 : Int)) (Q71 a_g a_p1 l9) i hi)), rfl, hc23, trivial⟩ ?_
            refine awp_le (Le.trans (le_of (st' := (⟨[(2, (.ptr 2 0)), (5, (.vpt 5 64 0 0)), (6, (.vpt 6 64 0 0)), (7, Q81), (8, (.vsl 25 ([a_p1].length + (Q71 a_g a_p1 l9).length)))], [(2, .row 26 (Q46 a_g)), (5, .arr 1 44 64 (Q69 a_p1 a_g l9)), (6, .arr 1 56 64 (Q59 l9 a_p1)), (25, .arr 1 3 ([a_p1].length + (Q71 a_g a_p1 l9).length) (fun i => eI64 (([a_p1] ++ (Q71 a_g a_p1 l9)).getD i (0 : Int)))), (36007, .arr 1 3 Q79 Q48)], []⟩ : St)) (TmpsLe.refl _) (.same (.same (.same (.arr (leL_of_eq (len_app _ _) (fun k_ hk_ => (congrArg (AV.eraseAll Q53) ((appF_app (fun _ _ => rfl) (fun _ _ => rfl)) k_ hk_)).trans rfl)) (.same .nil)))))) (le_eq (congrArg (fun k_ : Nat => (⟨[(2, (.ptr 2 0)), (5, (.vpt 5 64 0 0)), (6, (.vpt 6 64 0 0)), (7, Q81), (8, (.vsl 25 k_))], [(2, .row 26 (Q46 a_g)), (5, .arr 1 44 64 (Q69 a_p1 a_g l9)), (6, .arr 1 56 64 (Q59 l9 a_p1)), (25, .arr 1 3 k_ (fun i => eI64 (([a_p1] ++ (Q71 a_g a_p1 l9)).getD i (0 : Int)))), (36007, .arr 1 3 Q79 Q48)], []⟩ : St)) (show ([a_p1].length + (Q71 a_g a_p1 l9).length) = ([a_p1] ++ (Q71 a_g a_p1 l9)).length from (len_app _ _))))) ?_
            refine awp_goto ?_
            refine block_goto ?_
            obtain rfl := Option.some.inj h
            exact ⟨(by intro hh; cases hh), rfl, Le.refl _ _⟩
          · replace h := cond_f hb h
            clear hb
            refine awp_skip ?_
            refine block_normal ?_
            obtain rfl := Option.some.inj h
            exact ⟨rfl, le_restrict_eq [2, 5, 6, 7, 8, 9] [2, 5, 6, 25, 36007] (by kernel_rfl) (no_hand hΓ)⟩
        · replace h := cond_f hb h
          clear hb
          refine awp_exit ?_
          refine then_exit ?_
          obtain rfl := Option.some.inj h
          exact ⟨(by intro hh; cases hh), rfl, le_restrict_eq [2, 5, 6, 7, 8, 9] [2, 5, 6, 25, 36007] (by kernel_rfl) (no_hand hΓ)⟩
      · clear hx24
        rcases x24 with l10 | ⟨l11, l12, l13⟩
        · rintro e st' ⟨rfl, hl25⟩
          refine block_here ?_
          refine then_normal ?_
          refine awp_le hl25 ?_
          obtain ⟨hc26, h⟩ := chk_some h
          refine rgs [] [(69, (AV.list 1 eI64 (0 : Int) ([(Q44 a_p1)] : List (Int)) .exact))] (⟨(Q90 a_p1), [(2, .row 26 (Q46 a_g)), (5, .arr 1 44 64 (Q47 a_p1)), (6, .arr 1 56 64 (Q76 l10)), (25, .arr 1 3 ([a_p1].length) (Q49 a_p1)), (36007, .arr 1 3 (Q78 a_p1) (fun i_ => AV.eraseAll Q53 ((appF Q79 Q48 (fun i => eI64 (([(Q44 a_p1)] : List (Int)).getD i (0 : Int)))) i_)))], []⟩ : St) [(AVle (.slice 1 1 (fun i => ([[(.int .i64 (Q44 a_p1))]] : List (List AV)).getD i []) .exact) (AV.list 1 eI64 (0 : Int) ([(Q44 a_p1)] : List (Int)) .exact)), (([] : List Int).length = ([] : List Int).length), (([] : List Int).length + ([(Q44 a_p1)] : List (Int)).length ≤ room)] hn mix (no_hand hΓ) (by kernel_rfl) ⟨(av_lit rfl (fun i hi => map_get (e := eI64) (d := (0 : Int)) ([(Q44 a_p1)] : List (Int)) i hi)), rfl, hc26, trivial⟩ ?_
          refine awp_le (Le.trans (le_of (st' := (⟨(Q90 a_p1), [(2, .row 26 (Q46 a_g)), (5, .arr 1 44 64 (Q47 a_p1)), (6, .arr 1 56 64 (Q76 l10)), (25, .arr 1 3 ([a_p1].length) (Q49 a_p1)), (36007, .arr 1 3 (Q78 a_p1) (Q74 a_p1))], []⟩ : St)) (TmpsLe.refl _) (.same (.same (.same (.same (.arr (leL_of_eq (len_app _ _) (fun k_ hk_ => (congrArg (AV.eraseAll Q53) ((appF_app (fun _ _ => rfl) (fun _ _ => rfl)) k_ hk_)).trans rfl)) .nil)))))) (le_eq (congrArg (fun k_ : Nat => (⟨[(2, (.ptr 2 0)), (5, (.vpt 5 64 0 0)), (6, (.vpt 6 64 0 0)), (7, (.vsl 36007 k_)), (8, (.vsl 25 [a_p1].length))], [(2, .row 26 (Q46 a_g)), (5, .arr 1 44 64 (Q47 a_p1)), (6, .arr 1 56 64 (Q76 l10)), (25, .arr 1 3 ([a_p1].length) (Q49 a_p1)), (36007, .arr 1 3 k_ (Q74 a_p1))], []⟩ : St)) (show (Q78 a_p1) = (Q58 a_p1).length from (len_app _ _))))) ?_
          obtain ⟨hc27, h⟩ := chk_some h
          refine rgs [] [] (⟨[(2, (.ptr 2 0)), (5, (.vpt 5 64 0 0)), (6, (.vpt 6 64 0 0)), (7, (.vsl 36007 (Q58 a_p1).length)), (8, (.vsub 25 [a_p1].length 0 (0 + ((Q63 a_p1)).toNat)))], [(2, .row 26 (Q46 a_g)), (5, .arr 1 44 64 (Q47 a_p1)), (6, .arr 1 56 64 (Q76 l10)), (25, .arr 1 3 ([a_p1].length) (Q49 a_p1)), (36007, .arr 1 3 ((Q58 a_p1).length) (Q74 a_p1))], []⟩ : St) [(0 ≤ (Q63 a_p1) ∧ 0 + ((Q63 a_p1)).toNat ≤ [a_p1].length)] hn mix (no_hand hΓ) (by kernel_rfl) ⟨hc27, trivial⟩ ?_
          refine awp_le (Le.trans (Le.trans (le_trunc (t := 8) (r := 25) (k := (0 + ((Q63 a_p1)).toNat)) rfl rfl hc27.2 (by kernel_rfl) (.row (by kernel_rfl) (.arr (fun _ => by kernel_rfl) (.arr (fun _ => by kernel_rfl) (.arr (fun _ => by kernel_rfl) (.arr (fun _ => by kernel_rfl) .nil))))) (by rw [hΓ]; rfl)) (le_eq (st' := (⟨(Q88 a_p1), [(2, .row 26 (Q46 a_g)), (5, .arr 1 44 64 (Q47 a_p1)), (6, .arr 1 56 64 (Q76 l10)), (25, .arr 1 3 (0 + ((Q63 a_p1)).toNat) (Q49 a_p1)), (36007, .arr 1 3 ((Q58 a_p1).length) (Q74 a_p1))], []⟩ : St)) (by kernel_rfl))) (Le.trans (le_of (st' := (⟨(Q88 a_p1), [(2, .row 26 (Q46 a_g)), (5, .arr 1 44 64 (Q47 a_p1)), (6, .arr 1 56 64 (Q76 l10)), (25, .arr 1 3 (0 + ((Q63 a_p1)).toNat) (fun i => eI64 ((Q86 a_p1).getD i (0 : Int)))), (36007, .arr 1 3 ((Q58 a_p1).length) (Q74 a_p1))], []⟩ : St)) (TmpsLe.refl _) (.same (.same (.same (.arr (take_le (e := eI64) (d := (0 : Int))) (.same .nil)))))) (le_eq (congrArg (fun k_ : Nat => (⟨[(2, (.ptr 2 0)), (5, (.vpt 5 64 0 0)), (6, (.vpt 6 64 0 0)), (7, (.vsl 36007 (Q58 a_p1).length)), (8, (.vsl 25 k_))], [(2, .row 26 (Q46 a_g)), (5, .arr 1 44 64 (Q47 a_p1)), (6, .arr 1 56 64 (Q76 l10)), (25, .arr 1 3 k_ (fun i => eI64 ((Q86 a_p1).getD i (0 : Int)))), (36007, .arr 1 3 ((Q58 a_p1).length) (Q74 a_p1))], []⟩ : St)) (show (0 + ((Q63 a_p1)).toNat) = (Q86 a_p1).length from take_len hc27.2))))) ?_
          refine awp_seq ?_
          refine rgs0 (⟨[(2, (.ptr 2 0)), (5, (.vpt 5 64 0 0)), (6, (.vpt 6 64 0 0)), (7, (.vsl 36007 (Q58 a_p1).length)), (8, (.vsl 25 (Q86 a_p1).length)), (78, (.bool (decide (((0 : Int) : Int) < ((Q86 a_p1).length : Int)))))], [(2, .row 26 (Q46 a_g)), (5, .arr 1 44 64 (Q47 a_p1)), (6, .arr 1 56 64 (Q76 l10)), (25, .arr 1 3 ((Q86 a_p1).length) (fun i => eI64 ((Q86 a_p1).getD i (0 : Int)))), (36007, .arr 1 3 ((Q58 a_p1).length) (Q74 a_p1))], []⟩ : St) hn mix (no_hand hΓ) (by kernel_rfl) ?_
          refine awp_cond (decide (((0 : Int) : Int) < ((Q86 a_p1).length : Int))) (by kernel_rfl) (fun hb => ?_) (fun hb => ?_)
          · replace h := cond_t hb h
            clear hb
            refine awp_goto ?_
            refine then_goto ?_
            obtain rfl := Option.some.inj h
            exact ⟨rfl, rfl, le_restrict_eq [2, 5, 6, 7, 8] [2, 5, 6, 25, 36007] (by kernel_rfl) (no_hand hΓ)⟩
          · replace h := cond_f hb h
            clear hb
            refine awp_skip ?_
            refine then_normal ?_
            obtain ⟨x28, hx28, h⟩ := bind_some h
            obtain ⟨hc29, h⟩ := chk_some h
            refine rgs [⟨[(36007, 34000)], [], (.tuple []), [(34000, .arr 1 3 x28.length (Q83 x28))], []⟩] [] (⟨[(7, (.vsl 36007 (Q58 a_p1).length))], [(36007, .arr 1 3 x28.length (Q83 x28))], []⟩ : St) [(Spec Try.prog 37 [(.vsl 34000 (Q58 a_p1).length)] [(34000, .arr 1 3 ((Q58 a_p1).length) (Q74 a_p1))] (.tuple []) [(34000, .arr 1 3 x28.length (Q83 x28))])] hn mix (no_hand hΓ) (by kernel_rfl) ⟨(ok_slices_Reverse_int_int (Q58 a_p1) x28 hx28), trivial⟩ ?_
            refine awp_le (le_eq (congrArg (fun k_ : Nat => (⟨[(7, (.vsl 36007 k_))], [(36007, .arr 1 3 x28.length (Q83 x28))], []⟩ : St)) (show (Q58 a_p1).length = x28.length from hc29))) ?_
            refine rgs0 (⟨[(4, (.vsl 36007 x28.length))], [(36007, .arr 1 3 x28.length (Q83 x28))], []⟩ : St) hn mix (no_hand hΓ) (by kernel_rfl) ?_
            refine awp_le (Le.trans (le_freeze (nm := 36007) (sz := 1) (n := x28.length) (e := 3) (f := (Q83 x28)) (g := (Q83 x28)) rfl ⟨rfl, trivial⟩ (fun _ _ => rfl) (by rw [hΓ]; rfl)) (le_eq (st' := (⟨[(4, (AV.list 1 eI64 (0 : Int) x28 (.own 36007)))], [(36007, .tok 1 3 x28.length)], []⟩ : St)) (by kernel_rfl))) ?_
            refine awp_ret ?_
            obtain rfl := Option.some.inj h
            exact ⟨(by intro l hh; cases hh), rfl, ⟨.inl rfl, [(36007, 20000)], by kernel_rfl⟩⟩
        · rintro e st' ⟨rfl, hl30⟩
          refine block_goto ?_
          refine then_goto ?_
          obtain rfl := Option.some.inj h
          exact ⟨rfl, rfl, Le.trans hl30 (Le.refl _ _)⟩
  · clear h hx54
    rintro ⟨l1, l2, l3, l4⟩ y rest hf h
    obtain rfl := Option.some.inj hf
    clear hf
    unfold m_graph_Order_F3 at h
    refine awp_seq ?_
    refine awp_skip ?_
    refine then_normal ?_
    obtain ⟨hc31, h⟩ := chk_some h
    refine rgs [] [] (⟨(Q67 l4 l3), [(2, .row 26 (Q46 a_g)), (5, .arr 1 44 64 (Q55 l1)), (6, .arr 1 56 64 (fun i => eI64 (l2.getD i (0 : Int)))), (25, .arr 1 3 l3.length (Q52 l3)), (36007, .arr 1 3 l4.length (Q54 l4))], []⟩ : St) [(InB (Q65 l3) l3.length), (l3.length = l3.length)] hn mix (no_hand hΓ) (by kernel_rfl) ⟨hc31, rfl, trivial⟩ ?_
    refine awp_seq ?_
    refine awp_block ?_
    refine awp_le (st' := (fun (l32 : List (Int)) => (⟨(Q67 l4 l3), (Q64 a_g l1 l32 l3 l4), []⟩ : St)) l2) (Le.refl _ _) ?_
    obtain ⟨x47, hx47, h⟩ := bind_some h
    refine awp_loop (fun (l32 : List (Int)) => (⟨(Q67 l4 l3), (Q64 a_g l1 l32 l3 l4), []⟩ : St)) _ (fun (x_ : (List (Int) ⊕ (List (Bool) × List (Int) × List (Int)))) (e : Exit) (st : St) => match x_ with | (.inl l33) => e = (.exit 0) ∧ Le Γ st (⟨(Q67 l4 l3), [(2, .row 26 (Q46 a_g)), (5, .arr 1 44 64 (Q55 l1)), (6, .arr 1 56 64 (Q77 l33)), (25, .arr 1 3 l3.length (Q52 l3)), (36007, .arr 1 3 l4.length (Q54 l4))], []⟩ : St) | (.inr (l34, l35, l36)) => e = (.goto 0) ∧ Le Γ st (⟨[(2, (.ptr 2 0)), (5, (.vpt 5 64 0 0)), (6, (.vpt 6 64 0 0)), (7, (Q91 l4)), (8, (.vsl 25 l36.length))], [(2, .row 26 (Q46 a_g)), (5, .arr 1 44 64 (fun i => eB (l34.getD i false))), (6, .arr 1 56 64 (fun i => eI64 (l35.getD i (0 : Int)))), (25, .arr 1 3 l36.length (fun i => eI64 (l36.getD i (0 : Int)))), (36007, .arr 1 3 l4.length (Q54 l4))], []⟩ : St)) ?_ hx47 ?_
    · intro l32 y h
      unfold m_graph_Order_L2 at h
      refine awp_seq ?_
      obtain ⟨hc37, h⟩ := chk_some h
      obtain ⟨hc38, h⟩ := chk_some h
      refine rgs [] [] (⟨[(2, (.ptr 2 0)), (5, (.vpt 5 64 0 0)), (6, (.vpt 6 64 0 0)), (7, (Q91 l4)), (8, (.vsl 25 l3.length)), (9, (.int .i64 (Q45 l3))), (41, (.bool (decide (((l32.getD ((Q45 l3)).toNat (0 : Int)) : Int) < ((a_g.Succ.getD ((Q45 l3)).toNat []).length : Int)))))], (Q64 a_g l1 l32 l3 l4), []⟩ : St) [(InB (Q45 l3) 64), (64 = 64), (InB (Q45 l3) a_g.Succ.length)] hn mix (no_hand hΓ) (by kernel_rfl) ⟨hc37, rfl, hc38, trivial⟩ ?_
      refine awp_cond (decide (((l32.getD ((Q45 l3)).toNat (0 : Int)) : Int) < ((a_g.Succ.getD ((Q45 l3)).toNat []).length : Int))) (by kernel_rfl) (fun hb => ?_) (fun hb => ?_)
      · replace h := cond_t hb h
        clear hb
        refine awp_skip ?_
        refine then_normal ?_
        refine awp_block ?_
        obtain ⟨hc39, h⟩ := chk_some h
        obtain ⟨hc40, h⟩ := chk_some h
        obtain ⟨hc41, h⟩ := chk_some h
        refine rgs [] [] (⟨(Q70 l4 l3 a_g l32), (Q64 a_g l1 l32 l3 l4), []⟩ : St) [(InB (Q45 l3) a_g.Succ.length), (InB (Q45 l3) 64), (64 = 64), (InB (l32.getD ((Q45 l3)).toNat (0 : Int)) (a_g.Succ.getD ((Q45 l3)).toNat []).length)] hn mix (no_hand hΓ) (by kernel_rfl) ⟨hc39, hc40, rfl, hc41, trivial⟩ ?_
        obtain ⟨hc42, h⟩ := chk_some h
        obtain ⟨hc43, h⟩ := chk_some h
        refine rgs [] [] (⟨(Q70 l4 l3 a_g l32), [(2, .row 26 (Q46 a_g)), (5, .arr 1 44 64 (Q55 l1)), (6, .arr 1 56 64 (fun i_ => AV.eraseAll Q53 ((putF (fun i => eI64 (l32.getD i (0 : Int))) ((Q45 l3)).toNat 0 [(.int .i64 (w64 ((l32.getD ((Q45 l3)).toNat (0 : Int)) + (1 : Int))))]) i_))), (25, .arr 1 3 l3.length (Q52 l3)), (36007, .arr 1 3 l4.length (Q54 l4))], []⟩ : St) [(InB (Q45 l3) 64), (64 = 64), (InB (Q45 l3) 64), (64 = 64)] hn mix (no_hand hΓ) (by kernel_rfl) ⟨hc42, rfl, hc43, rfl, trivial⟩ ?_
        refine awp_le (le_of (st' := (⟨(Q70 l4 l3 a_g l32), [(2, .row 26 (Q46 a_g)), (5, .arr 1 44 64 (Q55 l1)), (6, .arr 1 56 64 (Q60 l32 l3)), (25, .arr 1 3 l3.length (Q52 l3)), (36007, .arr 1 3 l4.length (Q54 l4))], []⟩ : St)) (TmpsLe.refl _) (.same (.same (.arr (leL_of_eq rfl (fun k_ hk_ => (congrArg (AV.eraseAll Q53) ((putF_setN (fun _ _ => rfl) (inB_lit hc43) rfl) k_ hk_)).trans rfl)) (.same (.same .nil)))))) ?_
        obtain ⟨hc44, h⟩ := chk_some h
        refine rgs [] [] (⟨[(2, (.ptr 2 0)), (5, (.vpt 5 64 0 0)), (6, (.vpt 6 64 0 0)), (7, (Q91 l4)), (8, (.vsl 25 l3.length)), (9, (.int .i64 (Q45 l3))), (10, (.int .i64 (Q57 a_g l3 l32))), (60, (.bool (!(l1.getD ((Q57 a_g l3 l32)).toNat false))))], [(2, .row 26 (Q46 a_g)), (5, .arr 1 44 64 (Q55 l1)), (6, .arr 1 56 64 (Q60 l32 l3)), (25, .arr 1 3 l3.length (Q52 l3)), (36007, .arr 1 3 l4.length (Q54 l4))], []⟩ : St) [(InB (Q57 a_g l3 l32) 64), (64 = 64)] hn mix (no_hand hΓ) (by kernel_rfl) ⟨hc44, rfl, trivial⟩ ?_
        refine awp_cond (!(l1.getD ((Q57 a_g l3 l32)).toNat false)) (by kernel_rfl) (fun hb => ?_) (fun hb => ?_)
        · replace h := cond_t hb h
          clear hb
          obtain ⟨hc45, h⟩ := chk_some h
          refine rgs [] [] (⟨[(2, (.ptr 2 0)), (5, (.vpt 5 64 0 0)), (6, (.vpt 6 64 0 0)), (7, (Q91 l4)), (8, (.vsl 25 l3.length)), (10, (.int .i64 (Q57 a_g l3 l32)))], [(2, .row 26 (Q46 a_g)), (5, .arr 1 44 64 (fun i_ => AV.eraseAll Q53 ((putF (Q55 l1) ((Q57 a_g l3 l32)).toNat 0 [(.bool true)]) i_))), (6, .arr 1 56 64 (Q60 l32 l3)), (25, .arr 1 3 l3.length (Q52 l3)), (36007, .arr 1 3 l4.length (Q54 l4))], []⟩ : St) [(InB (Q57 a_g l3 l32) 64), (64 = 64)] hn mix (no_hand hΓ) (by kernel_rfl) ⟨hc45, rfl, trivial⟩ ?_
          refine awp_le (le_of (st' := (⟨[(2, (.ptr 2 0)), (5, (.vpt 5 64 0 0)), (6, (.vpt 6 64 0 0)), (7, (Q91 l4)), (8, (.vsl 25 l3.length)), (10, (.int .i64 (Q57 a_g l3 l32)))], [(2, .row 26 (Q46 a_g)), (5, .arr 1 44 64 (Q80 l1 a_g l3 l32)), (6, .arr 1 56 64 (Q60 l32 l3)), (25, .arr 1 3 l3.length (Q52 l3)), (36007, .arr 1 3 l4.length (Q54 l4))], []⟩ : St)) (TmpsLe.refl _) (.same (.arr (leL_of_eq rfl (fun k_ hk_ => (congrArg (AV.eraseAll Q53) ((putF_setN (fun _ _ => rfl) (inB_lit hc45) rfl) k_ hk_)).trans rfl)) (.same (.same (.same .nil)))))) ?_
          obtain ⟨hc46, h⟩ := chk_some h
          refine rgs [] [(65, (AV.list 1 eI64 (0 : Int) (Q72 a_g l3 l32) .exact))] (⟨[(2, (.ptr 2 0)), (5, (.vpt 5 64 0 0)), (6, (.vpt 6 64 0 0)), (7, (Q91 l4)), (8, (.vsl 25 (l3.length + (Q72 a_g l3 l32).length)))], [(2, .row 26 (Q46 a_g)), (5, .arr 1 44 64 (Q80 l1 a_g l3 l32)), (6, .arr 1 56 64 (Q60 l32 l3)), (25, .arr 1 3 (l3.length + (Q72 a_g l3 l32).length) (fun i_ => AV.eraseAll Q53 ((appF l3.length (Q52 l3) (fun i => eI64 ((Q72 a_g l3 l32).getD i (0 : Int)))) i_))), (36007, .arr 1 3 l4.length (Q54 l4))], []⟩ : St) [(AVle (.slice 1 1 (fun i => ([[(.int .i64 (Q57 a_g l3 l32))]] : List (List AV)).getD i []) .exact) (AV.list 1 eI64 (0 : Int) (Q72 a_g l3 l32) .exact)), (l3.length = l3.length), (l3.length + (Q72 a_g l3 l32).length ≤ room)] hn mix (no_hand hΓ) (by kernel_rfl) ⟨(av_lit rfl (fun i hi => map_get (e := eI64) (d := (0 : Int)) (Q72 a_g l3 l32) i hi)), rfl, hc46, trivial⟩ ?_
          refine awp_le (Le.trans (le_of (st' := (⟨[(2, (.ptr 2 0)), (5, (.vpt 5 64 0 0)), (6, (.vpt 6 64 0 0)), (7, (Q91 l4)), (8, (.vsl 25 (l3.length + (Q72 a_g l3 l32).length)))], [(2, .row 26 (Q46 a_g)), (5, .arr 1 44 64 (Q80 l1 a_g l3 l32)), (6, .arr 1 56 64 (Q60 l32 l3)), (25, .arr 1 3 (l3.length + (Q72 a_g l3 l32).length) (fun i => eI64 ((l3 ++ (Q72 a_g l3 l32)).getD i (0 : Int)))), (36007, .arr 1 3 l4.length (Q54 l4))], []⟩ : St)) (TmpsLe.refl _) (.same (.same (.same (.arr (leL_of_eq (len_app _ _) (fun k_ hk_ => (congrArg (AV.eraseAll Q53) ((appF_app (fun _ _ => rfl) (fun _ _ => rfl)) k_ hk_)).trans rfl)) (.same .nil)))))) (le_eq (congrArg (fun k_ : Nat => (⟨[(2, (.ptr 2 0)), (5, (.vpt 5 64 0 0)), (6, (.vpt 6 64 0 0)), (7, (Q91 l4)), (8, (.vsl 25 k_))], [(2, .row 26 (Q46 a_g)), (5, .arr 1 44 64 (Q80 l1 a_g l3 l32)), (6, .arr 1 56 64 (Q60 l32 l3)), (25, .arr 1 3 k_ (fun i => eI64 ((l3 ++ (Q72 a_g l3 l32)).getD i (0 : Int)))), (36007, .arr 1 3 l4.length (Q54 l4))], []⟩ : St)) (show (l3.length + (Q72 a_g l3 l32).length) = (l3 ++ (Q72 a_g l3 l32)).length from (len_app _ _))))) ?_
          refine awp_goto ?_
          refine block_goto ?_
          obtain rfl := Option.some.inj h
          exact ⟨(by intro hh; cases hh), rfl, Le.refl _ _⟩
        · replace h := cond_f hb h
          clear hb
          refine awp_skip ?_
          refine block_normal ?_
          obtain rfl := Option.some.inj h
          exact ⟨rfl, le_restrict_eq [2, 5, 6, 7, 8, 9] [2, 5, 6, 25, 36007] (by kernel_rfl) (no_hand hΓ)⟩
      · replace h := cond_f hb h
        clear hb
        refine awp_exit ?_
        refine then_exit ?_
        obtain rfl := Option.some.inj h
        exact ⟨(by intro hh; cases hh), rfl, le_restrict_eq [2, 5, 6, 7, 8, 9] [2, 5, 6, 25, 36007] (by kernel_rfl) (no_hand hΓ)⟩
    · clear hx47
      rcases x47 with l33 | ⟨l34, l35, l36⟩
      · rintro e st' ⟨rfl, hl48⟩
        refine block_here ?_
        refine then_normal ?_
        refine awp_le hl48 ?_
        obtain ⟨hc49, h⟩ := chk_some h
        refine rgs [] [(69, (AV.list 1 eI64 (0 : Int) (Q87 l3) .exact))] (⟨[(2, (.ptr 2 0)), (5, (.vpt 5 64 0 0)), (6, (.vpt 6 64 0 0)), (7, (.vsl 36007 (l4.length + (Q87 l3).length))), (8, (.vsl 25 l3.length))], [(2, .row 26 (Q46 a_g)), (5, .arr 1 44 64 (Q55 l1)), (6, .arr 1 56 64 (Q77 l33)), (25, .arr 1 3 l3.length (Q52 l3)), (36007, .arr 1 3 (l4.length + (Q87 l3).length) (fun i_ => AV.eraseAll Q53 ((appF l4.length (Q54 l4) (fun i => eI64 ((Q87 l3).getD i (0 : Int)))) i_)))], []⟩ : St) [(AVle (.slice 1 1 (fun i => ([[(.int .i64 (Q45 l3))]] : List (List AV)).getD i []) .exact) (AV.list 1 eI64 (0 : Int) (Q87 l3) .exact)), (l4.length = l4.length), (l4.length + (Q87 l3).length ≤ room)] hn mix (no_hand hΓ) (by kernel_rfl) ⟨(av_lit rfl (fun i hi => map_get (e := eI64) (d := (0 : Int)) (Q87 l3) i hi)), rfl, hc49, trivial⟩ ?_
        refine awp_le (Le.trans (le_of (st' := (⟨[(2, (.ptr 2 0)), (5, (.vpt 5 64 0 0)), (6, (.vpt 6 64 0 0)), (7, (.vsl 36007 (l4.length + (Q87 l3).length))), (8, (.vsl 25 l3.length))], [(2, .row 26 (Q46 a_g)), (5, .arr 1 44 64 (Q55 l1)), (6, .arr 1 56 64 (Q77 l33)), (25, .arr 1 3 l3.length (Q52 l3)), (36007, .arr 1 3 (l4.length + (Q87 l3).length) (Q73 l4 l3))], []⟩ : St)) (TmpsLe.refl _) (.same (.same (.same (.same (.arr (leL_of_eq (len_app _ _) (fun k_ hk_ => (congrArg (AV.eraseAll Q53) ((appF_app (fun _ _ => rfl) (fun _ _ => rfl)) k_ hk_)).trans rfl)) .nil)))))) (le_eq (congrArg (fun k_ : Nat => (⟨[(2, (.ptr 2 0)), (5, (.vpt 5 64 0 0)), (6, (.vpt 6 64 0 0)), (7, (.vsl 36007 k_)), (8, (.vsl 25 l3.length))], [(2, .row 26 (Q46 a_g)), (5, .arr 1 44 64 (Q55 l1)), (6, .arr 1 56 64 (Q77 l33)), (25, .arr 1 3 l3.length (Q52 l3)), (36007, .arr 1 3 k_ (Q73 l4 l3))], []⟩ : St)) (show (l4.length + (Q87 l3).length) = (Q62 l4 l3).length from (len_app _ _))))) ?_
        obtain ⟨hc50, h⟩ := chk_some h
        refine rgs [] [] (⟨[(2, (.ptr 2 0)), (5, (.vpt 5 64 0 0)), (6, (.vpt 6 64 0 0)), (7, (.vsl 36007 (Q62 l4 l3).length)), (8, (.vsub 25 l3.length 0 (0 + ((Q65 l3)).toNat)))], [(2, .row 26 (Q46 a_g)), (5, .arr 1 44 64 (Q55 l1)), (6, .arr 1 56 64 (Q77 l33)), (25, .arr 1 3 l3.length (Q52 l3)), (36007, .arr 1 3 ((Q62 l4 l3).length) (Q73 l4 l3))], []⟩ : St) [(0 ≤ (Q65 l3) ∧ 0 + ((Q65 l3)).toNat ≤ l3.length)] hn mix (no_hand hΓ) (by kernel_rfl) ⟨hc50, trivial⟩ ?_
        refine awp_le (Le.trans (Le.trans (le_trunc (t := 8) (r := 25) (k := (0 + ((Q65 l3)).toNat)) rfl rfl hc50.2 (by kernel_rfl) (.row (by kernel_rfl) (.arr (fun _ => by kernel_rfl) (.arr (fun _ => by kernel_rfl) (.arr (fun _ => by kernel_rfl) (.arr (fun _ => by kernel_rfl) .nil))))) (by rw [hΓ]; rfl)) (le_eq (st' := (⟨[(2, (.ptr 2 0)), (5, (.vpt 5 64 0 0)), (6, (.vpt 6 64 0 0)), (7, (.vsl 36007 (Q62 l4 l3).length)), (8, (.vsl 25 (0 + ((Q65 l3)).toNat)))], [(2, .row 26 (Q46 a_g)), (5, .arr 1 44 64 (Q55 l1)), (6, .arr 1 56 64 (Q77 l33)), (25, .arr 1 3 (0 + ((Q65 l3)).toNat) (Q52 l3)), (36007, .arr 1 3 ((Q62 l4 l3).length) (Q73 l4 l3))], []⟩ : St)) (by kernel_rfl))) (Le.trans (le_of (st' := (⟨[(2, (.ptr 2 0)), (5, (.vpt 5 64 0 0)), (6, (.vpt 6 64 0 0)), (7, (.vsl 36007 (Q62 l4 l3).length)), (8, (.vsl 25 (0 + ((Q65 l3)).toNat)))], [(2, .row 26 (Q46 a_g)), (5, .arr 1 44 64 (Q55 l1)), (6, .arr 1 56 64 (Q77 l33)), (25, .arr 1 3 (0 + ((Q65 l3)).toNat) (fun i => eI64 ((Q89 l3).getD i (0 : Int)))), (36007, .arr 1 3 ((Q62 l4 l3).length) (Q73 l4 l3))], []⟩ : St)) (TmpsLe.refl _) (.same (.same (.same (.arr (take_le (e := eI64) (d := (0 : Int))) (.same .nil)))))) (le_eq (congrArg (fun k_ : Nat => (⟨[(2, (.ptr 2 0)), (5, (.vpt 5 64 0 0)), (6, (.vpt 6 64 0 0)), (7, (.vsl 36007 (Q62 l4 l3).length)), (8, (.vsl 25 k_))], [(2, .row 26 (Q46 a_g)), (5, .arr 1 44 64 (Q55 l1)), (6, .arr 1 56 64 (Q77 l33)), (25, .arr 1 3 k_ (fun i => eI64 ((Q89 l3).getD i (0 : Int)))), (36007, .arr 1 3 ((Q62 l4 l3).length) (Q73 l4 l3))], []⟩ : St)) (show (0 + ((Q65 l3)).toNat) = (Q89 l3).length from take_len hc50.2))))) ?_
        refine awp_seq ?_
        refine rgs0 (⟨[(2, (.ptr 2 0)), (5, (.vpt 5 64 0 0)), (6, (.vpt 6 64 0 0)), (7, (.vsl 36007 (Q62 l4 l3).length)), (8, (.vsl 25 (Q89 l3).length)), (78, (.bool (decide (((0 : Int) : Int) < ((Q89 l3).length : Int)))))], [(2, .row 26 (Q46 a_g)), (5, .arr 1 44 64 (Q55 l1)), (6, .arr 1 56 64 (Q77 l33)), (25, .arr 1 3 ((Q89 l3).length) (fun i => eI64 ((Q89 l3).getD i (0 : Int)))), (36007, .arr 1 3 ((Q62 l4 l3).length) (Q73 l4 l3))], []⟩ : St) hn mix (no_hand hΓ) (by kernel_rfl) ?_
        refine awp_cond (decide (((0 : Int) : Int) < ((Q89 l3).length : Int))) (by kernel_rfl) (fun hb => ?_) (fun hb => ?_)
        · replace h := cond_t hb h
          clear hb
          refine awp_goto ?_
          refine then_goto ?_
          obtain rfl := Option.some.inj h
          exact ⟨rfl, rfl, le_restrict_eq [2, 5, 6, 7, 8] [2, 5, 6, 25, 36007] (by kernel_rfl) (no_hand hΓ)⟩
        · replace h := cond_f hb h
          clear hb
          refine awp_skip ?_
          refine then_normal ?_
          obtain ⟨x51, hx51, h⟩ := bind_some h
          obtain ⟨hc52, h⟩ := chk_some h
          refine rgs [⟨[(36007, 34000)], [], (.tuple []), [(34000, .arr 1 3 x51.length (Q84 x51))], []⟩] [] (⟨[(7, (.vsl 36007 (Q62 l4 l3).length))], [(36007, .arr 1 3 x51.length (Q84 x51))], []⟩ : St) [(Spec Try.prog 37 [(.vsl 34000 (Q62 l4 l3).length)] [(34000, .arr 1 3 ((Q62 l4 l3).length) (Q73 l4 l3))] (.tuple []) [(34000, .arr 1 3 x51.length (Q84 x51))])] hn mix (no_hand hΓ) (by kernel_rfl) ⟨(ok_slices_Reverse_int_int (Q62 l4 l3) x51 hx51), trivial⟩ ?_
          refine awp_le (le_eq (congrArg (fun k_ : Nat => (⟨[(7, (.vsl 36007 k_))], [(36007, .arr 1 3 x51.length (Q84 x51))], []⟩ : St)) (show (Q62 l4 l3).length = x51.length from hc52))) ?_
          refine rgs0 (⟨[(4, (.vsl 36007 x51.length))], [(36007, .arr 1 3 x51.length (Q84 x51))], []⟩ : St) hn mix (no_hand hΓ) (by kernel_rfl) ?_
          refine awp_le (Le.trans (le_freeze (nm := 36007) (sz := 1) (n := x51.length) (e := 3) (f := (Q84 x51)) (g := (Q84 x51)) rfl ⟨rfl, trivial⟩ (fun _ _ => rfl) (by rw [hΓ]; rfl)) (le_eq (st' := (⟨[(4, (AV.list 1 eI64 (0 : Int) x51 (.own 36007)))], [(36007, .tok 1 3 x51.length)], []⟩ : St)) (by kernel_rfl))) ?_
          refine awp_ret ?_
          obtain rfl := Option.some.inj h
          exact ⟨(by intro l hh; cases hh), rfl, ⟨.inl rfl, [(36007, 20000)], by kernel_rfl⟩⟩
      · rintro e st' ⟨rfl, hl53⟩
        refine block_goto ?_
        refine then_goto ?_
        obtain rfl := Option.some.inj h
        exact ⟨rfl, rfl, Le.trans hl53 (Le.refl _ _)⟩
  · clear hx54
    rintro e st' ⟨rfl, hk⟩
    obtain rfl := Option.some.inj h
    exact hk

noncomputable def m_pdom_marks_mark_L1 (x1 : List (Int)) : (Int × List (Bool)) → Option (LR (Int × List (Bool)) (List (Bool))) :=
  fun ((i2, l3) : (Int × List (Bool))) => (bif (decide ((i2 : Int) < (x1.length : Int))) then (chk (InB i2 x1.length) (chk (InB (x1.getD (i2).toNat (0 : Int)) 64) (some (.next ((w64 (i2 + (1 : Int))), (setN 64 false l3 ((x1.getD (i2).toNat (0 : Int))).toNat true)))))) else (some (.done l3)))
noncomputable def Q93 (x1 : List (Int)) (l3 : List (Bool)) : List (Nat × Own) := [(10, .tok 1 3 x1.length), (34000, .arr 1 45 64 (fun i => eB (l3.getD i false)))]
noncomputable def Q92 (x1 : List (Int)) (i2 : Int) : List (Nat × AV) := [(0, (.vpt 34000 64 0 0)), (10, (AV.list 1 eI64 (0 : Int) x1 (.own 10))), (11, (.int .i64 (x1.length : Int))), (12, (.int .i64 i2))]
noncomputable def m_pdom_marks_mark (a_out : List (Bool)) (a_back : TGraph) (a_at : Int) : Option (List (Bool)) :=
  ((m_graph_Order a_back a_at).bind fun x1 => ((loopO (S := (Int × List (Bool))) (X := List (Bool)) (m_pdom_marks_mark_L1 x1) ((0 : Int), a_out)).bind (fun x7 => ((some x7)))))
theorem ok_pdom_marks_mark (a_out : List (Bool)) (a_back : TGraph) (a_at : Int) (r : List (Bool)) (h : m_pdom_marks_mark a_out a_back a_at = some r) : Spec Try.prog 26 [(.vpt 34000 64 0 0), (.agg (eTGraph a_back)), (.int .i64 a_at)] [(34000, .arr 1 45 64 (fun i => eB (a_out.getD i false)))] (.tuple []) [(34000, .arr 1 45 64 (fun i => eB (r.getD i false)))] := by
  refine spec_of_awp (fn := Try.f26) Try.func26 rfl rfl (by kernel_rfl) (fun Γ hn hΓ => ?_)
  have hn : Γ.n = 21 := hn
  unfold m_pdom_marks_mark at h
  refine awp_cl ?_
  refine rgs0 (⟨[(0, (.vpt 34000 64 0 0)), (2, (.int .i64 a_at)), (4, (.ptr 4 0))], [(4, .row 26 [(AV.list 1 eLI64 [] a_back.Succ .none), (AV.list 1 eLI64 [] a_back.Pred .none)]), (34000, .arr 1 45 64 (fun i => eB (a_out.getD i false)))], []⟩ : St) hn mix (hand_in hΓ rfl) (by kernel_rfl) ?_
  obtain ⟨x1, hx1, h⟩ := bind_some h
  refine rgs [⟨[], [(20000, 10)], (AV.list 1 eI64 (0 : Int) x1 (.own 20000)), [(20000, .tok 1 3 x1.length)], []⟩] [] (⟨[(0, (.vpt 34000 64 0 0)), (10, (AV.list 1 eI64 (0 : Int) x1 (.own 10))), (11, (.int .i64 (x1.length : Int))), (12, (.int .i64 (0 : Int)))], [(10, .tok 1 3 x1.length), (34000, .arr 1 45 64 (fun i => eB (a_out.getD i false)))], []⟩ : St) [(Spec Try.prog 30 [(.agg (eTGraph a_back)), (.int .i64 a_at)] [] (AV.list 1 eI64 (0 : Int) x1 (.own 20000)) [(20000, .tok 1 3 x1.length)])] hn mix (hand_in hΓ rfl) (by kernel_rfl) ⟨(ok_graph_Order a_back a_at x1 hx1), trivial⟩ ?_
  refine awp_block ?_
  refine awp_le (st' := (fun ((i2, l3) : (Int × List (Bool))) => (⟨(Q92 x1 i2), (Q93 x1 l3), []⟩ : St)) ((0 : Int), a_out)) (Le.refl _ _) ?_
  obtain ⟨x7, hx7, h⟩ := bind_some h
  refine awp_loop (fun ((i2, l3) : (Int × List (Bool))) => (⟨(Q92 x1 i2), (Q93 x1 l3), []⟩ : St)) _ (fun (l4 : List (Bool)) (e : Exit) (st : St) => e = (.exit 0) ∧ Le Γ st (⟨[], [(34000, .arr 1 45 64 (fun i => eB (l4.getD i false)))], []⟩ : St)) ?_ hx7 ?_
  · rintro ⟨i2, l3⟩ y h
    unfold m_pdom_marks_mark_L1 at h
    refine rgs0 (⟨[(0, (.vpt 34000 64 0 0)), (10, (AV.list 1 eI64 (0 : Int) x1 (.own 10))), (11, (.int .i64 (x1.length : Int))), (12, (.int .i64 i2)), (13, (.bool (decide ((i2 : Int) < (x1.length : Int)))))], (Q93 x1 l3), []⟩ : St) hn mix (hand_in hΓ rfl) (by kernel_rfl) ?_
    refine awp_seq ?_
    refine awp_cond (decide ((i2 : Int) < (x1.length : Int))) (by kernel_rfl) (fun hb => ?_) (fun hb => ?_)
    · replace h := cond_t hb h
      clear hb
      refine awp_skip ?_
      refine then_normal ?_
      refine awp_seq ?_
      refine awp_block ?_
      obtain ⟨hc5, h⟩ := chk_some h
      refine rgs [] [] (⟨[(0, (.vpt 34000 64 0 0)), (7, (.int .i64 (x1.getD (i2).toNat (0 : Int)))), (10, (AV.list 1 eI64 (0 : Int) x1 (.own 10))), (11, (.int .i64 (x1.length : Int))), (12, (.int .i64 i2))], (Q93 x1 l3), []⟩ : St) [(InB i2 x1.length)] hn mix (hand_in hΓ rfl) (by kernel_rfl) ⟨hc5, trivial⟩ ?_
      obtain ⟨hc6, h⟩ := chk_some h
      refine rg [] [] (⟨(Q92 x1 i2), [(10, .tok 1 3 x1.length), (34000, .arr 1 45 64 (fun i_ => AV.eraseAll (fun n_ => memB n_ [10, 34000]) ((putF (fun i => eB (l3.getD i false)) ((x1.getD (i2).toNat (0 : Int))).toNat 0 [(.bool true)]) i_)))], []⟩ : St) [(InB (x1.getD (i2).toNat (0 : Int)) 64), (64 = 64)] hn mix (hand_in hΓ rfl) (by kernel_rfl) ⟨hc6, rfl, trivial⟩ ?_
      refine block_normal ?_
      refine then_normal ?_
      refine awp_le (le_of (st' := (⟨(Q92 x1 i2), [(10, .tok 1 3 x1.length), (34000, .arr 1 45 64 (fun i => eB ((setN 64 false l3 ((x1.getD (i2).toNat (0 : Int))).toNat true).getD i false)))], []⟩ : St)) (TmpsLe.refl _) (.same (.arr (leL_of_eq rfl (fun k_ hk_ => (congrArg (AV.eraseAll (fun n_ => memB n_ [10, 34000])) ((putF_setN (fun _ _ => rfl) (inB_lit hc6) rfl) k_ hk_)).trans rfl)) .nil))) ?_
      refine rg0 (⟨[(0, (.vpt 34000 64 0 0)), (10, (AV.list 1 eI64 (0 : Int) x1 (.own 10))), (11, (.int .i64 (x1.length : Int))), (12, (.int .i64 (w64 (i2 + (1 : Int)))))], [(10, .tok 1 3 x1.length), (34000, .arr 1 45 64 (fun i => eB ((setN 64 false l3 ((x1.getD (i2).toNat (0 : Int))).toNat true).getD i false)))], []⟩ : St) hn mix (hand_in hΓ rfl) (by kernel_rfl) ?_
      obtain rfl := Option.some.inj h
      exact ⟨rfl, Le.refl _ _⟩
    · replace h := cond_f hb h
      clear hb
      refine awp_exit ?_
      refine then_exit ?_
      obtain rfl := Option.some.inj h
      exact ⟨(by intro hh; cases hh), rfl, le_restrict_eq [] [34000] (by kernel_rfl) (hand_in hΓ rfl)⟩
  · clear hx7
    rintro e st' ⟨rfl, hl8⟩
    refine block_here ?_
    obtain rfl := Option.some.inj h
    exact cl_of (hl8) ⟨.inr rfl, [(34000, 34000)], by kernel_rfl⟩

noncomputable def m_pdom_leadingOut_L1 (a_g : TGraph) (x1 : TGraph) : (Int × List (Bool)) → Option (LR (Int × List (Bool)) (List (Bool))) :=
  fun ((i2, l3) : (Int × List (Bool))) => (bif (decide ((i2 : Int) < (a_g.Succ.length : Int))) then (Option.bind (α := List (Bool)) (chk (InB i2 a_g.Succ.length) (bif ((((a_g.Succ.getD (i2).toNat []).length : Int) : Int) == (0 : Int)) then ((m_pdom_marks_mark l3 x1 i2).bind fun x7 => (some (x7))) else (some (l3)))) (fun x8 => ((some (.next ((w64 (i2 + (1 : Int))), x8)))))) else (some (.done l3)))
noncomputable def Q97 := (fun i => eB ((List.replicate 64 false).getD i false))
noncomputable def Q98 (x1 : TGraph) : List AV := [(AV.list 1 eLI64 [] x1.Succ .none), (AV.list 1 eLI64 [] x1.Pred .none)]
noncomputable def Q96 (a_g : TGraph) : List AV := [(AV.list 1 eLI64 [] a_g.Succ .none), (AV.list 1 eLI64 [] a_g.Pred .none)]
noncomputable def Q95 (a_g : TGraph) (i2 : Int) : List (Nat × AV) := [(2, (.vpt 2 64 0 0)), (3, (.vpt 3 64 0 0)), (4, (.ptr 4 0)), (10, (AV.list 1 eLI64 [] a_g.Succ .none)), (11, (.int .i64 (a_g.Succ.length : Int))), (12, (.int .i64 i2))]
noncomputable def Q94 (l3 : List (Bool)) (x1 : TGraph) : List (Nat × Own) := [(2, .arr 1 45 64 Q97), (3, .arr 1 45 64 (fun i => eB (l3.getD i false))), (4, .row 26 (Q98 x1))]
noncomputable def m_pdom_leadingOut (a_g : TGraph) : Option (List (Bool)) :=
  ((m_graph_Turned a_g).bind fun x1 => ((loopO (S := (Int × List (Bool))) (X := List (Bool)) (m_pdom_leadingOut_L1 a_g x1) ((0 : Int), (List.replicate 64 false))).bind (fun x10 => ((some x10)))))
theorem ok_pdom_leadingOut (a_g : TGraph) (r : List (Bool)) (h : m_pdom_leadingOut a_g = some r) : Spec Try.prog 24 [(.agg (eTGraph a_g))] [] (.agg (eA64B r)) [] := by
  refine spec_of_awp (fn := Try.f24) Try.func24 rfl rfl (by kernel_rfl) (fun Γ hn hΓ => ?_)
  have hn : Γ.n = 25 := hn
  unfold m_pdom_leadingOut at h
  refine rgs [] [(2, (.vpt 2 64 0 0))] (⟨[(1, (.ptr 1 0)), (2, (.vpt 2 64 0 0))], [(1, .row 26 (Q96 a_g)), (2, .arr 1 45 64 (fun i_ => AV.eraseAll (fun n_ => memB n_ [1, 2]) ((fun i => (((List.replicate 64 [(.bool false)]).flatten).drop (i * 1)).take 1) i_)))], []⟩ : St) [] hn mix (no_hand hΓ) (by kernel_rfl) trivial ?_
  refine awp_le (le_of (st' := (⟨[(1, (.ptr 1 0)), (2, (.vpt 2 64 0 0))], [(1, .row 26 (Q96 a_g)), (2, .arr 1 45 64 Q97)], []⟩ : St)) (TmpsLe.refl _) (.same (.arr (arrE_zero (e := eB) (d := false) (z := [(.bool false)]) rfl rfl rfl) .nil))) ?_
  refine rgs [] [(3, (.vpt 3 64 0 0))] (⟨[(1, (.ptr 1 0)), (2, (.vpt 2 64 0 0)), (3, (.vpt 3 64 0 0))], [(1, .row 26 (Q96 a_g)), (2, .arr 1 45 64 Q97), (3, .arr 1 45 64 (fun i_ => AV.eraseAll (fun n_ => memB n_ [1, 2, 3]) ((fun i => (((List.replicate 64 [(.bool false)]).flatten).drop (i * 1)).take 1) i_)))], []⟩ : St) [] hn mix (no_hand hΓ) (by kernel_rfl) trivial ?_
  refine awp_le (le_of (st' := (⟨[(1, (.ptr 1 0)), (2, (.vpt 2 64 0 0)), (3, (.vpt 3 64 0 0))], [(1, .row 26 (Q96 a_g)), (2, .arr 1 45 64 Q97), (3, .arr 1 45 64 Q97)], []⟩ : St)) (TmpsLe.refl _) (.same (.same (.arr (arrE_zero (e := eB) (d := false) (z := [(.bool false)]) rfl rfl rfl) .nil)))) ?_
  obtain ⟨x1, hx1, h⟩ := bind_some h
  refine rgs [⟨[], [], (.agg (eTGraph x1)), [], []⟩] [] (⟨[(1, (.ptr 1 0)), (2, (.vpt 2 64 0 0)), (3, (.vpt 3 64 0 0)), (4, (.ptr 4 0))], [(1, .row 26 (Q96 a_g)), (2, .arr 1 45 64 Q97), (3, .arr 1 45 64 Q97), (4, .row 26 (Q98 x1))], []⟩ : St) [(Spec Try.prog 21 [(.agg (eTGraph a_g))] [] (.agg (eTGraph x1)) [])] hn mix (no_hand hΓ) (by kernel_rfl) ⟨(ok_graph_Turned a_g x1 hx1), trivial⟩ ?_
  refine awp_seq ?_
  refine rgs0 (⟨[(2, (.vpt 2 64 0 0)), (3, (.vpt 3 64 0 0)), (4, (.ptr 4 0)), (10, (AV.list 1 eLI64 [] a_g.Succ .none)), (11, (.int .i64 (a_g.Succ.length : Int))), (12, (.int .i64 (0 : Int)))], [(2, .arr 1 45 64 Q97), (3, .arr 1 45 64 Q97), (4, .row 26 (Q98 x1))], []⟩ : St) hn mix (no_hand hΓ) (by kernel_rfl) ?_
  refine awp_block ?_
  refine awp_le (st' := (fun ((i2, l3) : (Int × List (Bool))) => (⟨(Q95 a_g i2), (Q94 l3 x1), []⟩ : St)) ((0 : Int), (List.replicate 64 false))) (Le.refl _ _) ?_
  obtain ⟨x10, hx10, h⟩ := bind_some h
  refine awp_loop (fun ((i2, l3) : (Int × List (Bool))) => (⟨(Q95 a_g i2), (Q94 l3 x1), []⟩ : St)) _ (fun (l4 : List (Bool)) (e : Exit) (st : St) => e = (.exit 0) ∧ Le Γ st (⟨[(2, (.vpt 2 64 0 0)), (3, (.vpt 3 64 0 0))], [(2, .arr 1 45 64 Q97), (3, .arr 1 45 64 (fun i => eB (l4.getD i false)))], []⟩ : St)) ?_ hx10 ?_
  · rintro ⟨i2, l3⟩ y h
    unfold m_pdom_leadingOut_L1 at h
    refine rgs0 (⟨[(2, (.vpt 2 64 0 0)), (3, (.vpt 3 64 0 0)), (4, (.ptr 4 0)), (10, (AV.list 1 eLI64 [] a_g.Succ .none)), (11, (.int .i64 (a_g.Succ.length : Int))), (12, (.int .i64 i2)), (13, (.bool (decide ((i2 : Int) < (a_g.Succ.length : Int)))))], (Q94 l3 x1), []⟩ : St) hn mix (no_hand hΓ) (by kernel_rfl) ?_
    refine awp_seq ?_
    refine awp_cond (decide ((i2 : Int) < (a_g.Succ.length : Int))) (by kernel_rfl) (fun hb => ?_) (fun hb => ?_)
    · replace h := cond_t hb h
      clear hb
      refine awp_skip ?_
      refine then_normal ?_
      refine awp_seq ?_
      obtain ⟨x8, hx8, h⟩ := bind_some h
      refine awp_join (fun (l5 : List (Bool)) (e : Exit) (st : St) => e = .normal ∧ Le Γ st (⟨(Q95 a_g i2), [(2, .arr 1 45 64 Q97), (3, .arr 1 45 64 (fun i => eB (l5.getD i false))), (4, .row 26 (Q98 x1))], []⟩ : St)) hx8 ?_ ?_
      · clear h hx8
        intro y h
        refine awp_block ?_
        obtain ⟨hc6, h⟩ := chk_some h
        refine rgs [] [] (⟨[(2, (.vpt 2 64 0 0)), (3, (.vpt 3 64 0 0)), (4, (.ptr 4 0)), (5, (.int .i64 i2)), (6, (AV.list 1 eI64 (0 : Int) (a_g.Succ.getD (i2).toNat []) .none)), (10, (AV.list 1 eLI64 [] a_g.Succ .none)), (11, (.int .i64 (a_g.Succ.length : Int))), (12, (.int .i64 i2))], (Q94 l3 x1), []⟩ : St) [(InB i2 a_g.Succ.length)] hn mix (no_hand hΓ) (by kernel_rfl) ⟨hc6, trivial⟩ ?_
        refine rgs0 (⟨[(2, (.vpt 2 64 0 0)), (3, (.vpt 3 64 0 0)), (4, (.ptr 4 0)), (5, (.int .i64 i2)), (10, (AV.list 1 eLI64 [] a_g.Succ .none)), (11, (.int .i64 (a_g.Succ.length : Int))), (12, (.int .i64 i2)), (19, (.bool ((((a_g.Succ.getD (i2).toNat []).length : Int) : Int) == (0 : Int))))], (Q94 l3 x1), []⟩ : St) hn mix (no_hand hΓ) (by kernel_rfl) ?_
        refine awp_cond ((((a_g.Succ.getD (i2).toNat []).length : Int) : Int) == (0 : Int)) (by kernel_rfl) (fun hb => ?_) (fun hb => ?_)
        · replace h := cond_t hb h
          clear hb
          obtain ⟨x7, hx7, h⟩ := bind_some h
          refine rg [⟨[(3, 34000)], [], (.tuple []), [(34000, .arr 1 45 64 (fun i => eB (x7.getD i false)))], []⟩] [] (⟨(Q95 a_g i2), [(2, .arr 1 45 64 Q97), (3, .arr 1 45 64 (fun i => eB (x7.getD i false))), (4, .row 26 (Q98 x1))], []⟩ : St) [(Spec Try.prog 26 [(.vpt 34000 64 0 0), (.agg (eTGraph x1)), (.int .i64 i2)] [(34000, .arr 1 45 64 (fun i => eB (l3.getD i false)))] (.tuple []) [(34000, .arr 1 45 64 (fun i => eB (x7.getD i false)))])] hn mix (no_hand hΓ) (by kernel_rfl) ⟨(ok_pdom_marks_mark l3 x1 i2 x7 hx7), trivial⟩ ?_
          refine block_normal ?_
          obtain rfl := Option.some.inj h
          exact ⟨rfl, Le.refl _ _⟩
        · replace h := cond_f hb h
          clear hb
          refine awp_skip ?_
          refine block_normal ?_
          obtain rfl := Option.some.inj h
          exact ⟨rfl, le_restrict_eq [2, 3, 4, 10, 11, 12] [2, 3, 4] (by kernel_rfl) (no_hand hΓ)⟩
      · clear hx8
        rintro e st' ⟨rfl, hl9⟩
        refine then_normal ?_
        refine awp_le hl9 ?_
        refine rg0 (⟨[(2, (.vpt 2 64 0 0)), (3, (.vpt 3 64 0 0)), (4, (.ptr 4 0)), (10, (AV.list 1 eLI64 [] a_g.Succ .none)), (11, (.int .i64 (a_g.Succ.length : Int))), (12, (.int .i64 (w64 (i2 + (1 : Int)))))], [(2, .arr 1 45 64 Q97), (3, .arr 1 45 64 (fun i => eB (x8.getD i false))), (4, .row 26 (Q98 x1))], []⟩ : St) hn mix (no_hand hΓ) (by kernel_rfl) ?_
        obtain rfl := Option.some.inj h
        exact ⟨rfl, Le.refl _ _⟩
    · replace h := cond_f hb h
      clear hb
      refine awp_exit ?_
      refine then_exit ?_
      obtain rfl := Option.some.inj h
      exact ⟨(by intro hh; cases hh), rfl, le_restrict_eq [2, 3] [2, 3] (by kernel_rfl) (no_hand hΓ)⟩
  · clear hx10
    rintro e st' ⟨rfl, hl11⟩
    refine block_here ?_
    refine then_normal ?_
    refine awp_le hl11 ?_
    refine rgs [] [] (⟨[(2, (.vpt 2 64 0 0))], [(2, .arr 1 45 64 (fun i_ => AV.eraseAll (fun n_ => memB n_ [2]) ((fun i_ => (((eA64B x10)).drop (i_ * 1)).take 1) i_)))], []⟩ : St) [(64 = 64), (64 = 64)] hn mix (no_hand hΓ) (by kernel_rfl) ⟨rfl, rfl, trivial⟩ ?_
    refine awp_le (le_of (st' := (⟨[(2, (.vpt 2 64 0 0))], [(2, .arr 1 45 64 (fun i => eB (x10.getD i false)))], []⟩ : St)) (TmpsLe.refl _) (.arr (leL_of_eq rfl (fun k_ hk_ => (congrArg (AV.eraseAll (fun n_ => memB n_ [2])) ((flat_chunk (n := 64) (sz := 1) (f := (fun i => eB (x10.getD i false))) (fun _ _ => rfl)) k_ hk_)).trans rfl)) .nil)) ?_
    refine awp_ret ?_
    obtain rfl := Option.some.inj h
    exact ⟨.inl rfl, [], by kernel_rfl⟩

noncomputable def m_slices_Index_bool_bool_L1 (a_s : List (Bool)) (a_v : Bool) : Int → Option (LR Int (Unit ⊕ Int)) :=
  fun (i1 : Int) => (bif (decide ((i1 : Int) < (a_s.length : Int))) then (chk (InB i1 a_s.length) (bif (a_v == (a_s.getD (i1).toNat false)) then (some (.done (.inr i1))) else (some (.next (w64 (i1 + (1 : Int))))))) else (some (.done (.inl ()))))
noncomputable def Q99 (a_s : List (Bool)) : AV := (AV.list 1 eB false a_s .none)
noncomputable def Q100 (a_s : List (Bool)) : AV := (.int .i64 (a_s.length : Int))
noncomputable def m_slices_Index_bool_bool (a_s : List (Bool)) (a_v : Bool) : Option Int :=
  ((loopO (S := Int) (X := (Unit ⊕ Int)) (m_slices_Index_bool_bool_L1 a_s a_v) (0 : Int)).bind (fun x3 => (match x3 with | (.inl _) => (some (-1 : Int)) | (.inr r5) => (some r5))))
theorem ok_slices_Index_bool_bool (a_s : List (Bool)) (a_v : Bool) (r : Int) (h : m_slices_Index_bool_bool a_s a_v = some r) : Spec Try.prog 25 [(AV.list 1 eB false a_s .none), (.bool a_v)] [] (.int .i64 r) [] := by
  refine spec_of_awp (fn := Try.f25) Try.func25 rfl rfl (by kernel_rfl) (fun Γ hn hΓ => ?_)
  have hn : Γ.n = 19 := hn
  unfold m_slices_Index_bool_bool at h
  refine rgs0 (⟨[(0, (Q99 a_s)), (1, (.bool a_v))], [], []⟩ : St) hn mix (no_hand hΓ) (by kernel_rfl) ?_
  refine awp_seq ?_
  refine rgs0 (⟨[(0, (Q99 a_s)), (1, (.bool a_v)), (7, (Q100 a_s)), (8, (.int .i64 (0 : Int)))], [], []⟩ : St) hn mix (no_hand hΓ) (by kernel_rfl) ?_
  refine awp_block ?_
  refine awp_le (st' := (fun (i1 : Int) => (⟨[(0, (Q99 a_s)), (1, (.bool a_v)), (7, (Q100 a_s)), (8, (.int .i64 i1))], [], []⟩ : St)) (0 : Int)) (Le.refl _ _) ?_
  obtain ⟨x3, hx3, h⟩ := bind_some h
  refine awp_loop (fun (i1 : Int) => (⟨[(0, (Q99 a_s)), (1, (.bool a_v)), (7, (Q100 a_s)), (8, (.int .i64 i1))], [], []⟩ : St)) _ (fun (x_ : (Unit ⊕ Int)) (e : Exit) (st : St) => match x_ with | (.inl _) => e = (.exit 0) ∧ Le Γ st (⟨[], [], []⟩ : St) | (.inr r_) => e = .ret ∧ retK Try.prog Try.f25.results.toList [] (.int .i64 r_) [] e st) ?_ hx3 ?_
  · intro i1 y h
    unfold m_slices_Index_bool_bool_L1 at h
    refine rgs0 (⟨[(0, (Q99 a_s)), (1, (.bool a_v)), (7, (Q100 a_s)), (8, (.int .i64 i1)), (9, (.bool (decide ((i1 : Int) < (a_s.length : Int)))))], [], []⟩ : St) hn mix (no_hand hΓ) (by kernel_rfl) ?_
    refine awp_seq ?_
    refine awp_cond (decide ((i1 : Int) < (a_s.length : Int))) (by kernel_rfl) (fun hb => ?_) (fun hb => ?_)
    · replace h := cond_t hb h
      clear hb
      refine awp_skip ?_
      refine then_normal ?_
      refine awp_seq ?_
      refine awp_block ?_
      refine rgs0 (⟨[(0, (Q99 a_s)), (1, (.bool a_v)), (5, (.int .i64 i1)), (7, (Q100 a_s)), (8, (.int .i64 i1))], [], []⟩ : St) hn mix (no_hand hΓ) (by kernel_rfl) ?_
      obtain ⟨hc2, h⟩ := chk_some h
      refine rgs [] [] (⟨[(0, (Q99 a_s)), (1, (.bool a_v)), (5, (.int .i64 i1)), (7, (Q100 a_s)), (8, (.int .i64 i1)), (16, (.bool (a_v == (a_s.getD (i1).toNat false))))], [], []⟩ : St) [(InB i1 a_s.length)] hn mix (no_hand hΓ) (by kernel_rfl) ⟨hc2, trivial⟩ ?_
      refine awp_cond (a_v == (a_s.getD (i1).toNat false)) (by kernel_rfl) (fun hb => ?_) (fun hb => ?_)
      · replace h := cond_t hb h
        clear hb
        refine rgs0 (⟨[(4, (.int .i64 i1))], [], []⟩ : St) hn mix (no_hand hΓ) (by kernel_rfl) ?_
        refine awp_ret ?_
        refine block_ret ?_
        refine then_ret ?_
        obtain rfl := Option.some.inj h
        exact ⟨(by intro hh; cases hh), rfl, ⟨.inl rfl, [], by kernel_rfl⟩⟩
      · replace h := cond_f hb h
        clear hb
        refine awp_skip ?_
        refine block_normal ?_
        refine then_normal ?_
        refine rg0 (⟨[(0, (Q99 a_s)), (1, (.bool a_v)), (7, (Q100 a_s)), (8, (.int .i64 (w64 (i1 + (1 : Int)))))], [], []⟩ : St) hn mix (no_hand hΓ) (by kernel_rfl) ?_
        obtain rfl := Option.some.inj h
        exact ⟨rfl, Le.refl _ _⟩
    · replace h := cond_f hb h
      clear hb
      refine awp_exit ?_
      refine then_exit ?_
      obtain rfl := Option.some.inj h
      exact ⟨(by intro hh; cases hh), rfl, le_restrict_eq [] [] (by kernel_rfl) (no_hand hΓ)⟩
  · clear hx3
    rcases x3 with _ | r5
    · rintro e st' ⟨rfl, hl4⟩
      refine block_here ?_
      refine then_normal ?_
      refine awp_le hl4 ?_
      refine rgs0 (⟨[(4, (.int .i64 (-1 : Int)))], [], []⟩ : St) hn mix (no_hand hΓ) (by kernel_rfl) ?_
      refine awp_ret ?_
      obtain rfl := Option.some.inj h
      exact ⟨.inl rfl, [], by kernel_rfl⟩
    · rintro e st' ⟨rfl, hk⟩
      refine block_ret ?_
      refine then_ret ?_
      obtain rfl := Option.some.inj h
      exact hk

noncomputable def m_pdom_Exit_L1 (a_g : TGraph) : (Int × List (List (Int))) → Option (LR (Int × List (List (Int))) (List (List (Int)))) :=
  fun ((i7, l8) : (Int × List (List (Int)))) => (bif (decide ((i7 : Int) < (a_g.Succ.length : Int))) then (Option.bind (α := List (List (Int))) (chk (InB i7 a_g.Succ.length) (chk (InB i7 l8.length) ((m_slices_Clone_int_int (a_g.Succ.getD (i7).toNat [])).bind fun x13 => (chk (InB i7 l8.length) (bif ((((a_g.Succ.getD (i7).toNat []).length : Int) : Int) == (0 : Int)) then (chk (InB i7 (l8.set (i7).toNat x13).length) (chk (InB i7 (l8.set (i7).toNat x13).length) (some (((l8.set (i7).toNat x13).set (i7).toNat ([(a_g.Succ.length : Int)] : List (Int))))))) else (some ((l8.set (i7).toNat x13)))))))) (fun x17 => ((some (.next ((w64 (i7 + (1 : Int))), x17)))))) else (some (.done l8)))
noncomputable def m_pdom_Exit_F2 (a_g : TGraph) : (List (Bool) × List (List (Int)) × List (List (Int)) × List (List (Int))) → Option (LR (List (Bool) × List (List (Int)) × List (List (Int)) × List (List (Int))) (TGraph × Int)) :=
  fun (s_ : (List (Bool) × List (List (Int)) × List (List (Int)) × List (List (Int)))) => match s_ with | (l1, l2, l3, l4) => (chk (0 ≤ (a_g.Succ.length : Int) ∧ 0 + ((a_g.Succ.length : Int)).toNat ≤ 64) ((m_slices_Index_bool_bool (subN false l1 0 ((0 + ((a_g.Succ.length : Int)).toNat) - 0)) false).bind fun x32 => (bif (decide (((0 : Int) : Int) ≤ x32)) then (chk (InB x32 l4.length) (chk (InB x32 l4.length) (chk ((l4.getD (x32).toNat []).length + ([(a_g.Succ.length : Int)] : List (Int)).length ≤ room) (chk (InB x32 l4.length) ((m_pdom_marks_mark l1 (⟨l2, l3⟩ : TGraph) x32).bind fun x37 => (some (.next (x37, l2, l3, (l4.set (x32).toNat ((l4.getD (x32).toNat []) ++ ([(a_g.Succ.length : Int)] : List (Int)))))))))))) else ((m_graph_Make l4).bind fun x38 => (some (.done (x38.1, x38.2)))))))
noncomputable def Q102 (a_g : TGraph) := (a_g.Succ.length : Int)
noncomputable def Q114 (a_g : TGraph) : AV := (.int .i64 (Q102 a_g))
noncomputable def Q106 (l8 : List (List (Int))) (i7 : Int) (x13 : List (Int)) := (l8.set (i7).toNat x13)
noncomputable def Q108 (l4 : List (List (Int))) (x32 : Int) := (l4.getD (x32).toNat [])
noncomputable def Q107 (x19 : List (List (Int))) (x24 : Int) := (x19.getD (x24).toNat [])
noncomputable def Q113 (a_g : TGraph) := ([(Q102 a_g)] : List (Int))
noncomputable def Q127 (a_g : TGraph) := (w64 ((Q102 a_g) + (1 : Int)))
noncomputable def Q112 (l1 : List (Bool)) := (fun i => eB (l1.getD i false))
noncomputable def Q111 (x21 : List (Bool)) := (fun i => eB (x21.getD i false))
noncomputable def Q116 (a_g : TGraph) : AV := (AV.list 1 eLI64 [] a_g.Succ .none)
noncomputable def Q123 (l4 : List (List (Int))) (x32 : Int) (a_g : TGraph) := (l4.set (x32).toNat ((Q108 l4 x32) ++ (Q113 a_g)))
noncomputable def Q109 : AV := (AV.list 1 eLI64 [] ([] : List (List (Int))) .exact)
noncomputable def Q122 (x19 : List (List (Int))) (x24 : Int) (a_g : TGraph) := (x19.set (x24).toNat ((Q107 x19 x24) ++ (Q113 a_g)))
noncomputable def Q105 (l2 : List (List (Int))) (l3 : List (List (Int))) : List AV := [(AV.list 1 eLI64 [] l2 .none), (AV.list 1 eLI64 [] l3 .none)]
noncomputable def Q110 (a_g : TGraph) (i7 : Int) : AV := (AV.list 1 eI64 (0 : Int) (a_g.Succ.getD (i7).toNat []) .none)
noncomputable def Q120 (a_g : TGraph) (i7 : Int) := ((((a_g.Succ.getD (i7).toNat []).length : Int) : Int) == (0 : Int))
noncomputable def Q101 : List AV := [(.slice 0 0 (fun _ => []) .exact), (.slice 0 0 (fun _ => []) .exact)]
noncomputable def Q115 (a_g : TGraph) := (List.replicate ((Q127 a_g)).toNat ([] : List (Int)))
noncomputable def Q103 (a_g : TGraph) : List AV := [(Q116 a_g), (AV.list 1 eLI64 [] a_g.Pred .none)]
noncomputable def Q104 (x22 : TGraph) : List AV := [(AV.list 1 eLI64 [] x22.Succ .none), (AV.list 1 eLI64 [] x22.Pred .none)]
noncomputable def Q131 (a_g : TGraph) : List (Nat × AV) := [(1, (.ptr 1 0)), (2, (.ptr 2 0)), (4, (Q114 a_g)), (5, (.vsl 24 ((Q127 a_g)).toNat))]
noncomputable def Q117 (a_g : TGraph) (l8 : List (List (Int))) : List (Nat × Own) := [(1, .row 26 (Q103 a_g)), (2, .row 26 Q101), (24, .arr 1 30 l8.length (rowF 1 eI64 (0 : Int) l8 (Tag.fam 70024)))]
noncomputable def Q126 (a_g : TGraph) (l4 : List (List (Int))) (x32 : Int) : List (Nat × AV) := [(2, (.ptr 2 0)), (4, (Q114 a_g)), (5, (.vsl 24 l4.length)), (8, (.vpt 8 64 0 0)), (9, (.ptr 9 0)), (10, (.int .i64 x32))]
noncomputable def Q125 (a_g : TGraph) (x19 : List (List (Int))) (x24 : Int) : List (Nat × AV) := [(2, (.ptr 2 0)), (4, (Q114 a_g)), (5, (.vsl 24 x19.length)), (8, (.vpt 8 64 0 0)), (9, (.ptr 9 0)), (10, (.int .i64 x24))]
noncomputable def Q124 (a_g : TGraph) := (AVle (.slice 1 1 (fun i => ([[(Q114 a_g)]] : List (List AV)).getD i []) .exact) (AV.list 1 eI64 (0 : Int) (Q113 a_g) .exact))
noncomputable def Q119 (l1 : List (Bool)) (l2 : List (List (Int))) (l3 : List (List (Int))) (l4 : List (List (Int))) : List (Nat × Own) := [(2, .row 26 Q101), (8, .arr 1 45 64 (Q112 l1)), (9, .row 26 (Q105 l2 l3)), (24, .arr 1 30 l4.length (rowF 1 eI64 (0 : Int) l4 (Tag.fam 70024)))]
noncomputable def Q118 (x21 : List (Bool)) (x22 : TGraph) (x19 : List (List (Int))) : List (Nat × Own) := [(2, .row 26 Q101), (8, .arr 1 45 64 (Q111 x21)), (9, .row 26 (Q104 x22)), (24, .arr 1 30 x19.length (rowF 1 eI64 (0 : Int) x19 (Tag.fam 70024)))]
noncomputable def Q130 (a_g : TGraph) (l4 : List (List (Int))) (x32 : Int) : List (Nat × AV) := [(2, (.ptr 2 0)), (4, (Q114 a_g)), (5, (.vsl 24 l4.length)), (8, (.vpt 8 64 0 0)), (9, (.ptr 9 0)), (10, (.int .i64 x32)), (55, (.bool (decide (((0 : Int) : Int) ≤ x32))))]
noncomputable def Q121 (a_g : TGraph) (l8 : List (List (Int))) (i7 : Int) : List (Nat × AV) := [(1, (.ptr 1 0)), (2, (.ptr 2 0)), (4, (Q114 a_g)), (5, (.vsl 24 l8.length)), (6, (.int .i64 i7)), (7, (Q110 a_g i7)), (26, (Q116 a_g)), (27, (Q114 a_g)), (28, (.int .i64 i7))]
noncomputable def Q129 (a_g : TGraph) (l8 : List (List (Int))) (i7 : Int) := (⟨[(1, (.ptr 1 0)), (2, (.ptr 2 0)), (4, (Q114 a_g)), (5, (.vsl 24 l8.length)), (26, (Q116 a_g)), (27, (Q114 a_g)), (28, (.int .i64 i7))], (Q117 a_g l8), [(70024, ⟨1, 3, famM l8⟩)]⟩ : St)
noncomputable def Q128 (a_g : TGraph) (l8 : List (List (Int))) (i7 : Int) (x13 : List (Int)) : List (Nat × AV) := [(1, (.ptr 1 0)), (2, (.ptr 2 0)), (4, (Q114 a_g)), (5, (.vsl 24 (Q106 l8 i7 x13).length)), (6, (.int .i64 i7)), (26, (Q116 a_g)), (27, (Q114 a_g)), (28, (.int .i64 i7)), (40, (.bool (Q120 a_g i7)))]
noncomputable def m_pdom_Exit (a_g : TGraph) : Option (TGraph × Int) :=
  ((scopeO (S := (List (Bool) × List (List (Int)) × List (List (Int)) × List (List (Int)))) (X := (TGraph × Int)) ((m_graph_May a_g).bind fun x5 => (bif (bif (!x5) then true else (((a_g.Succ.length : Int) : Int) == (64 : Int))) then (some (.done ((⟨([] : List (List (Int))), ([] : List (List (Int)))⟩ : TGraph), (5 : Int)))) else (chk (0 ≤ (w64 ((a_g.Succ.length : Int) + (1 : Int))) ∧ (w64 ((a_g.Succ.length : Int) + (1 : Int))) ≤ (w64 ((a_g.Succ.length : Int) + (1 : Int))) ∧ (w64 ((a_g.Succ.length : Int) + (1 : Int))) ≤ (room : Int)) ((loopO (S := (Int × List (List (Int)))) (X := List (List (Int))) (m_pdom_Exit_L1 a_g) ((0 : Int), (List.replicate ((w64 ((a_g.Succ.length : Int) + (1 : Int)))).toNat ([] : List (Int))))).bind (fun x19 => (((m_pdom_leadingOut a_g).bind fun x21 => ((m_graph_Turned a_g).bind fun x22 => (chk (0 ≤ (a_g.Succ.length : Int) ∧ 0 + ((a_g.Succ.length : Int)).toNat ≤ 64) ((m_slices_Index_bool_bool (subN false x21 0 ((0 + ((a_g.Succ.length : Int)).toNat) - 0)) false).bind fun x24 => (bif (decide (((0 : Int) : Int) ≤ x24)) then (chk (InB x24 x19.length) (chk (InB x24 x19.length) (chk ((x19.getD (x24).toNat []).length + ([(a_g.Succ.length : Int)] : List (Int)).length ≤ room) (chk (InB x24 x19.length) ((m_pdom_marks_mark x21 x22 x24).bind fun x29 => (some (.next (x29, x22.Succ, x22.Pred, (x19.set (x24).toNat ((x19.getD (x24).toNat []) ++ ([(a_g.Succ.length : Int)] : List (Int)))))))))))) else ((m_graph_Make x19).bind fun x30 => (some (.done (x30.1, x30.2))))))))))))))) (m_pdom_Exit_F2 a_g)).bind (fun x39 => ((some x39))))
theorem ok_pdom_Exit (a_g : TGraph) (r : (TGraph × Int)) (h : m_pdom_Exit a_g = some r) : Spec Try.prog 11 [(.agg (eTGraph a_g))] [] (.tuple [(.agg (eTGraph r.1)), (.int .i64 r.2)]) [] := by
  refine spec_of_awp (fn := Try.f11) Try.func11 rfl rfl (by kernel_rfl) (fun Γ hn hΓ => ?_)
  have hn : Γ.n = 73 := hn
  unfold m_pdom_Exit at h
  refine rgs0 (⟨[(1, (.ptr 1 0)), (2, (.ptr 2 0))], [(1, .row 26 (Q103 a_g)), (2, .row 26 Q101)], []⟩ : St) hn mix (no_hand hΓ) (by kernel_rfl) ?_
  obtain ⟨x39, hx39, h⟩ := bind_some h
  refine awp_scope (S := (List (Bool) × List (List (Int)) × List (List (Int)) × List (List (Int)))) (X := (TGraph × Int)) (fun (s_ : (List (Bool) × List (List (Int)) × List (List (Int)) × List (List (Int)))) => match s_ with | (l1, l2, l3, l4) => 0) (fun (s_ : (List (Bool) × List (List (Int)) × List (List (Int)) × List (List (Int)))) => match s_ with | (l1, l2, l3, l4) => (⟨[(2, (.ptr 2 0)), (4, (Q114 a_g)), (5, (.vsl 24 l4.length)), (8, (.vpt 8 64 0 0)), (9, (.ptr 9 0))], (Q119 l1 l2 l3 l4), [(70024, ⟨1, 3, famM l4⟩)]⟩ : St)) _ _ (fun (r_ : (TGraph × Int)) (e : Exit) (st : St) => e = .ret ∧ retK Try.prog Try.f11.results.toList [] (.tuple [(.agg (eTGraph r_.1)), (.int .i64 r_.2)]) [] e st) ?_ ?_ hx39 ?_
  · clear h hx39
    intro y h
    refine rgs0 (⟨[(1, (.ptr 1 0)), (2, (.ptr 2 0)), (4, (Q114 a_g))], [(1, .row 26 (Q103 a_g)), (2, .row 26 Q101)], []⟩ : St) hn mix (no_hand hΓ) (by kernel_rfl) ?_
    refine awp_seq ?_
    obtain ⟨x5, hx5, h⟩ := bind_some h
    refine rgs [⟨[], [], (.bool x5), [], []⟩] [] (⟨[(1, (.ptr 1 0)), (2, (.ptr 2 0)), (4, (Q114 a_g)), (20, (.bool (bif (!x5) then true else (((Q102 a_g) : Int) == (64 : Int)))))], [(1, .row 26 (Q103 a_g)), (2, .row 26 Q101)], []⟩ : St) [(Spec Try.prog 22 [(.agg (eTGraph a_g))] [] (.bool x5) []), (((!x5) == false) = true → ((!x5) == false) = true), ((!x5) = false → ((!x5) == false) = true)] hn mix (no_hand hΓ) (by kernel_rfl) ⟨(ok_graph_May a_g x5 hx5), (fun hg => hg), gF, trivial⟩ ?_
    refine awp_cond (bif (!x5) then true else (((Q102 a_g) : Int) == (64 : Int))) (by kernel_rfl) (fun hb => ?_) (fun hb => ?_)
    · replace h := cond_t hb h
      clear hb
      refine rgs [] [(21, (.agg [Q109, Q109]))] (⟨[(2, (.ptr 2 0)), (3, (.int .i64 (5 : Int)))], [(2, .row 26 [Q109, Q109])], []⟩ : St) [(AVle (.agg Q101) (.agg [Q109, Q109]))] hn mix (no_hand hΓ) (by kernel_rfl) ⟨(AVle.agg (.cons av_nil (.cons av_nil .nil))), trivial⟩ ?_
      refine awp_le (st' := (⟨[(2, (.ptr 2 0)), (3, (.int .i64 (5 : Int)))], [(2, .row 26 [(AV.list 1 eLI64 [] ([] : List (List (Int))) .none), (AV.list 1 eLI64 [] ([] : List (List (Int))) .none)])], []⟩ : St)) (Le.trans (le_restrict_eq (st' := (⟨[(2, (.ptr 2 0)), (3, (.int .i64 (5 : Int)))], [(2, .row 26 [Q109, Q109])], []⟩ : St)) [2, 3] [2] (by kernel_rfl) (no_hand hΓ)) (le_of (.cons (AVle.refl _) (.cons (AVle.refl _) .nil)) (.row (.cons AVle.untag (.cons AVle.untag .nil)) .nil))) ?_
      refine awp_ret ?_
      refine then_ret ?_
      obtain rfl := Option.some.inj h
      exact ⟨(by intro l hh; cases hh), rfl, ⟨.inl rfl, [], by kernel_rfl⟩⟩
    · replace h := cond_f hb h
      clear hb
      refine awp_skip ?_
      refine then_normal ?_
      obtain ⟨hc6, h⟩ := chk_some h
      refine rgs [] [] (⟨(Q131 a_g), [(1, .row 26 (Q103 a_g)), (2, .row 26 Q101), (24, .arr 1 30 (((Q127 a_g)).toNat) (fun i_ => AV.eraseAll (fun n_ => memB n_ [1, 2, 24]) ((fun _ => [(.slice 0 0 (fun _ => []) .exact)]) i_)))], []⟩ : St) [(0 ≤ (Q127 a_g) ∧ (Q127 a_g) ≤ (Q127 a_g) ∧ (Q127 a_g) ≤ (room : Int))] hn mix (no_hand hΓ) (by kernel_rfl) ⟨hc6, trivial⟩ ?_
      refine awp_le (Le.trans (le_of (st' := (⟨(Q131 a_g), [(1, .row 26 (Q103 a_g)), (2, .row 26 Q101), (24, .arr 1 30 (((Q127 a_g)).toNat) (rowF 1 eI64 (0 : Int) (Q115 a_g) (fun _ => .exact)))], []⟩ : St)) (TmpsLe.refl _) (.same (.same (.arr fam_zero .nil)))) (Le.trans (Le.trans (le_birth (r := 24) (b := 70024) eI64 (0 : Int) (Q115 a_g) 3 rfl rfl (List.length_replicate ..).symm (fun h_ => absurd h_ (by decide))) (le_eq (st' := (⟨(Q131 a_g), [(1, .row 26 (Q103 a_g)), (2, .row 26 Q101), (24, .arr 1 30 (((Q127 a_g)).toNat) (rowF 1 eI64 (0 : Int) (Q115 a_g) (Tag.fam 70024)))], [(70024, ⟨1, 3, famM (Q115 a_g)⟩)]⟩ : St)) (by kernel_rfl))) (le_eq (congrArg (fun k_ : Nat => (⟨[(1, (.ptr 1 0)), (2, (.ptr 2 0)), (4, (Q114 a_g)), (5, (.vsl 24 k_))], [(1, .row 26 (Q103 a_g)), (2, .row 26 Q101), (24, .arr 1 30 k_ (rowF 1 eI64 (0 : Int) (Q115 a_g) (Tag.fam 70024)))], [(70024, ⟨1, 3, famM (Q115 a_g)⟩)]⟩ : St)) (show ((Q127 a_g)).toNat = (Q115 a_g).length from (List.length_replicate ..).symm))))) ?_
      refine awp_seq ?_
      refine rgs0 (⟨[(1, (.ptr 1 0)), (2, (.ptr 2 0)), (4, (Q114 a_g)), (5, (.vsl 24 (Q115 a_g).length)), (26, (Q116 a_g)), (27, (Q114 a_g)), (28, (.int .i64 (0 : Int)))], [(1, .row 26 (Q103 a_g)), (2, .row 26 Q101), (24, .arr 1 30 ((Q115 a_g).length) (rowF 1 eI64 (0 : Int) (Q115 a_g) (Tag.fam 70024)))], [(70024, ⟨1, 3, famM (Q115 a_g)⟩)]⟩ : St) hn mix (no_hand hΓ) (by kernel_rfl) ?_
      refine awp_block ?_
      refine awp_le (st' := (fun ((i7, l8) : (Int × List (List (Int)))) => (Q129 a_g l8 i7)) ((0 : Int), (Q115 a_g))) (Le.refl _ _) ?_
      obtain ⟨x19, hx19, h⟩ := bind_some h
      refine awp_loop (fun ((i7, l8) : (Int × List (List (Int)))) => (Q129 a_g l8 i7)) _ (fun (l9 : List (List (Int))) (e : Exit) (st : St) => e = (.exit 0) ∧ Le Γ st (⟨[(1, (.ptr 1 0)), (2, (.ptr 2 0)), (4, (Q114 a_g)), (5, (.vsl 24 l9.length))], [(1, .row 26 (Q103 a_g)), (2, .row 26 Q101), (24, .arr 1 30 l9.length (rowF 1 eI64 (0 : Int) l9 (Tag.fam 70024)))], [(70024, ⟨1, 3, famM l9⟩)]⟩ : St)) ?_ hx19 ?_
      · rintro ⟨i7, l8⟩ y h
        unfold m_pdom_Exit_L1 at h
        refine rgs0 (⟨[(1, (.ptr 1 0)), (2, (.ptr 2 0)), (4, (Q114 a_g)), (5, (.vsl 24 l8.length)), (26, (Q116 a_g)), (27, (Q114 a_g)), (28, (.int .i64 i7)), (29, (.bool (decide ((i7 : Int) < (Q102 a_g)))))], (Q117 a_g l8), [(70024, ⟨1, 3, famM l8⟩)]⟩ : St) hn mix (no_hand hΓ) (by kernel_rfl) ?_
        refine awp_seq ?_
        refine awp_cond (decide ((i7 : Int) < (Q102 a_g))) (by kernel_rfl) (fun hb => ?_) (fun hb => ?_)
        · replace h := cond_t hb h
          clear hb
          refine awp_skip ?_
          refine then_normal ?_
          refine awp_seq ?_
          obtain ⟨x17, hx17, h⟩ := bind_some h
          refine awp_join (fun (l10 : List (List (Int))) (e : Exit) (st : St) => e = .normal ∧ Le Γ st (⟨[(1, (.ptr 1 0)), (2, (.ptr 2 0)), (4, (Q114 a_g)), (5, (.vsl 24 l10.length)), (26, (Q116 a_g)), (27, (Q114 a_g)), (28, (.int .i64 i7))], [(1, .row 26 (Q103 a_g)), (2, .row 26 Q101), (24, .arr 1 30 l10.length (rowF 1 eI64 (0 : Int) l10 (Tag.fam 70024)))], [(70024, ⟨1, 3, famM l10⟩)]⟩ : St)) hx17 ?_ ?_
          · clear h hx17
            intro y h
            refine awp_block ?_
            obtain ⟨hc11, h⟩ := chk_some h
            refine rgs [] [] (⟨(Q121 a_g l8 i7), (Q117 a_g l8), [(70024, ⟨1, 3, famM l8⟩)]⟩ : St) [(InB i7 a_g.Succ.length)] hn mix (no_hand hΓ) (by kernel_rfl) ⟨hc11, trivial⟩ ?_
            refine awp_seq ?_
            obtain ⟨hc12, h⟩ := chk_some h
            obtain ⟨x13, hx13, h⟩ := bind_some h
            obtain ⟨hc14, h⟩ := chk_some h
            refine awp_le (Le.trans (le_take (r := 24) (b := 70024) (k := 60024) eI64 (0 : Int) l8 (i7).toNat 3 rfl rfl rfl rfl (inB_lit hc12) (by kernel_rfl) (.row (by kernel_rfl) (.row (by kernel_rfl) (.here .nil)))) (le_eq (st' := (⟨(Q121 a_g l8 i7), [(1, .row 26 (Q103 a_g)), (2, .row 26 Q101), (24, .arr 1 30 l8.length (rowF 1 eI64 (0 : Int) l8 (famTag 70024 (i7).toNat 60024))), (60024, .tok 1 3 ((l8.getD (i7).toNat []).length))], [(70024, ⟨1, 3, holeM l8 (i7).toNat⟩)]⟩ : St)) (by kernel_rfl))) ?_
            refine rg [⟨[], [(20000, 36)], (AV.list 1 eI64 (0 : Int) x13 (.own 20000)), [(20000, .tok 1 3 x13.length)], []⟩] [] (⟨(Q121 a_g l8 i7), [(1, .row 26 (Q103 a_g)), (2, .row 26 Q101), (24, .arr 1 30 l8.length (fun i_ => AV.eraseAll (fun n_ => memB n_ [1, 2, 24, 36, 70024]) ((putF (rowF 1 eI64 (0 : Int) l8 (famTag 70024 (i7).toNat 60024)) (i7).toNat 0 [(AV.list 1 eI64 (0 : Int) x13 (.own 36))]) i_))), (36, .tok 1 3 x13.length)], [(70024, ⟨1, 3, holeM l8 (i7).toNat⟩)]⟩ : St) [(Spec Try.prog 23 [(Q110 a_g i7)] [] (AV.list 1 eI64 (0 : Int) x13 (.own 20000)) [(20000, .tok 1 3 x13.length)]), (InB i7 l8.length), (l8.length = l8.length)] hn mix (no_hand hΓ) (by kernel_rfl) ⟨(ok_slices_Clone_int_int (a_g.Succ.getD (i7).toNat []) x13 hx13), hc14, rfl, trivial⟩ ?_
            refine then_normal ?_
            refine awp_le (Le.trans (Le.trans (le_put (r := 24) (b := 70024) (k := 36) eI64 (0 : Int) l8 (i7).toNat x13 3 rfl (putF_fam (inB_lit hc12) rfl rfl) rfl rfl rfl rfl (inB_lit hc12) (by kernel_rfl) (.row (by kernel_rfl) (.row (by kernel_rfl) (.here (.tok .nil)))) (by rw [hΓ]; rfl)) (le_eq (st' := (⟨(Q121 a_g l8 i7), [(1, .row 26 (Q103 a_g)), (2, .row 26 Q101), (24, .arr 1 30 l8.length (rowF 1 eI64 (0 : Int) (Q106 l8 i7 x13) (Tag.fam 70024)))], [(70024, ⟨1, 3, famM (Q106 l8 i7 x13)⟩)]⟩ : St)) (by kernel_rfl))) (le_eq (congrArg (fun k_ : Nat => (⟨[(1, (.ptr 1 0)), (2, (.ptr 2 0)), (4, (Q114 a_g)), (5, (.vsl 24 k_)), (6, (.int .i64 i7)), (7, (Q110 a_g i7)), (26, (Q116 a_g)), (27, (Q114 a_g)), (28, (.int .i64 i7))], [(1, .row 26 (Q103 a_g)), (2, .row 26 Q101), (24, .arr 1 30 k_ (rowF 1 eI64 (0 : Int) (Q106 l8 i7 x13) (Tag.fam 70024)))], [(70024, ⟨1, 3, famM (Q106 l8 i7 x13)⟩)]⟩ : St)) (show l8.length = (Q106 l8 i7 x13).length from (List.length_set ..).symm)))) ?_
            refine rgs0 (⟨(Q128 a_g l8 i7 x13), [(1, .row 26 (Q103 a_g)), (2, .row 26 Q101), (24, .arr 1 30 ((Q106 l8 i7 x13).length) (rowF 1 eI64 (0 : Int) (Q106 l8 i7 x13) (Tag.fam 70024)))], [(70024, ⟨1, 3, famM (Q106 l8 i7 x13)⟩)]⟩ : St) hn mix (no_hand hΓ) (by kernel_rfl) ?_
            refine awp_cond (Q120 a_g i7) (by kernel_rfl) (fun hb => ?_) (fun hb => ?_)
            · replace h := cond_t hb h
              clear hb
              obtain ⟨hc15, h⟩ := chk_some h
              obtain ⟨hc16, h⟩ := chk_some h
              refine awp_le (Le.trans (le_take (r := 24) (b := 70024) (k := 60024) eI64 (0 : Int) (Q106 l8 i7 x13) (i7).toNat 3 rfl rfl rfl rfl (inB_lit hc15) (by kernel_rfl) (.row (by kernel_rfl) (.row (by kernel_rfl) (.here .nil)))) (le_eq (st' := (⟨(Q128 a_g l8 i7 x13), [(1, .row 26 (Q103 a_g)), (2, .row 26 Q101), (24, .arr 1 30 ((Q106 l8 i7 x13).length) (rowF 1 eI64 (0 : Int) (Q106 l8 i7 x13) (famTag 70024 (i7).toNat 60024))), (60024, .tok 1 3 (((Q106 l8 i7 x13).getD (i7).toNat []).length))], [(70024, ⟨1, 3, holeM (Q106 l8 i7 x13) (i7).toNat⟩)]⟩ : St)) (by kernel_rfl))) ?_
              refine rg [] [(44, (AV.list 1 eI64 (0 : Int) (Q113 a_g) .exact))] (⟨[(1, (.ptr 1 0)), (2, (.ptr 2 0)), (4, (Q114 a_g)), (5, (.vsl 24 (Q106 l8 i7 x13).length)), (26, (Q116 a_g)), (27, (Q114 a_g)), (28, (.int .i64 i7))], [(1, .row 26 (Q103 a_g)), (2, .row 26 Q101), (24, .arr 1 30 ((Q106 l8 i7 x13).length) (fun i_ => AV.eraseAll (fun n_ => memB n_ [1, 2, 24, 70024]) ((putF (rowF 1 eI64 (0 : Int) (Q106 l8 i7 x13) (famTag 70024 (i7).toNat 60024)) (i7).toNat 0 [(AV.list 1 eI64 (0 : Int) (Q113 a_g) .exact)]) i_)))], [(70024, ⟨1, 3, holeM (Q106 l8 i7 x13) (i7).toNat⟩)]⟩ : St) [(Q124 a_g), (InB i7 (Q106 l8 i7 x13).length), ((Q106 l8 i7 x13).length = (Q106 l8 i7 x13).length)] hn mix (no_hand hΓ) (by kernel_rfl) ⟨(av_lit rfl (fun i hi => map_get (e := eI64) (d := (0 : Int)) (Q113 a_g) i hi)), hc16, rfl, trivial⟩ ?_
              refine block_normal ?_
              obtain rfl := Option.some.inj h
              exact ⟨rfl, Le.trans (Le.trans (Le.trans (le_putx (r := 24) (b := 70024) eI64 (0 : Int) (Q106 l8 i7 x13) (i7).toNat (Q113 a_g) 3 rfl (putF_famx (inB_lit hc15) rfl) rfl rfl (inB_lit hc15) (fun h_ => absurd h_ (by decide))) (le_eq (st' := (⟨[(1, (.ptr 1 0)), (2, (.ptr 2 0)), (4, (Q114 a_g)), (5, (.vsl 24 (Q106 l8 i7 x13).length)), (26, (Q116 a_g)), (27, (Q114 a_g)), (28, (.int .i64 i7))], [(1, .row 26 (Q103 a_g)), (2, .row 26 Q101), (24, .arr 1 30 ((Q106 l8 i7 x13).length) (rowF 1 eI64 (0 : Int) ((Q106 l8 i7 x13).set (i7).toNat (Q113 a_g)) (Tag.fam 70024)))], [(70024, ⟨1, 3, famM ((Q106 l8 i7 x13).set (i7).toNat (Q113 a_g))⟩)]⟩ : St)) (by kernel_rfl))) (le_eq (congrArg (fun k_ : Nat => (⟨[(1, (.ptr 1 0)), (2, (.ptr 2 0)), (4, (Q114 a_g)), (5, (.vsl 24 k_)), (26, (Q116 a_g)), (27, (Q114 a_g)), (28, (.int .i64 i7))], [(1, .row 26 (Q103 a_g)), (2, .row 26 Q101), (24, .arr 1 30 k_ (rowF 1 eI64 (0 : Int) ((Q106 l8 i7 x13).set (i7).toNat (Q113 a_g)) (Tag.fam 70024)))], [(70024, ⟨1, 3, famM ((Q106 l8 i7 x13).set (i7).toNat (Q113 a_g))⟩)]⟩ : St)) (show (Q106 l8 i7 x13).length = ((Q106 l8 i7 x13).set (i7).toNat (Q113 a_g)).length from (List.length_set ..).symm)))) (Le.refl _ _)⟩
            · replace h := cond_f hb h
              clear hb
              refine awp_skip ?_
              refine block_normal ?_
              obtain rfl := Option.some.inj h
              exact ⟨rfl, le_restrict_eq [1, 2, 4, 5, 26, 27, 28] [1, 2, 24, 70024] (by kernel_rfl) (no_hand hΓ)⟩
          · clear hx17
            rintro e st' ⟨rfl, hl18⟩
            refine then_normal ?_
            refine awp_le hl18 ?_
            refine rg0 (⟨[(1, (.ptr 1 0)), (2, (.ptr 2 0)), (4, (Q114 a_g)), (5, (.vsl 24 x17.length)), (26, (Q116 a_g)), (27, (Q114 a_g)), (28, (.int .i64 (w64 (i7 + (1 : Int)))))], [(1, .row 26 (Q103 a_g)), (2, .row 26 Q101), (24, .arr 1 30 x17.length (rowF 1 eI64 (0 : Int) x17 (Tag.fam 70024)))], [(70024, ⟨1, 3, famM x17⟩)]⟩ : St) hn mix (no_hand hΓ) (by kernel_rfl) ?_
            obtain rfl := Option.some.inj h
            exact ⟨rfl, Le.refl _ _⟩
        · replace h := cond_f hb h
          clear hb
          refine awp_exit ?_
          refine then_exit ?_
          obtain rfl := Option.some.inj h
          exact ⟨(by intro hh; cases hh), rfl, le_restrict_eq [1, 2, 4, 5] [1, 2, 24, 70024] (by kernel_rfl) (no_hand hΓ)⟩
      · clear hx19
        rintro e st' ⟨rfl, hl20⟩
        refine block_here ?_
        refine then_normal ?_
        refine awp_le hl20 ?_
        obtain ⟨x21, hx21, h⟩ := bind_some h
        obtain ⟨x22, hx22, h⟩ := bind_some h
        refine rgs [⟨[], [], (.agg (eA64B x21)), [], []⟩, ⟨[], [], (.agg (eTGraph x22)), [], []⟩] [(8, (.vpt 8 64 0 0))] (⟨[(2, (.ptr 2 0)), (4, (Q114 a_g)), (5, (.vsl 24 x19.length)), (8, (.vpt 8 64 0 0)), (9, (.ptr 9 0))], [(2, .row 26 Q101), (8, .arr 1 45 64 (fun i_ => AV.eraseAll (fun n_ => memB n_ [2, 8, 9, 24, 70024]) ((fun i_ => (((eA64B x21)).drop (i_ * 1)).take 1) i_))), (9, .row 26 (Q104 x22)), (24, .arr 1 30 x19.length (rowF 1 eI64 (0 : Int) x19 (Tag.fam 70024)))], [(70024, ⟨1, 3, famM x19⟩)]⟩ : St) [(Spec Try.prog 24 [(.agg (eTGraph a_g))] [] (.agg (eA64B x21)) []), (Spec Try.prog 21 [(.agg (eTGraph a_g))] [] (.agg (eTGraph x22)) []), (64 = 64)] hn mix (no_hand hΓ) (by kernel_rfl) ⟨(ok_pdom_leadingOut a_g x21 hx21), (ok_graph_Turned a_g x22 hx22), rfl, trivial⟩ ?_
        refine awp_le (le_of (st' := (⟨[(2, (.ptr 2 0)), (4, (Q114 a_g)), (5, (.vsl 24 x19.length)), (8, (.vpt 8 64 0 0)), (9, (.ptr 9 0))], (Q118 x21 x22 x19), [(70024, ⟨1, 3, famM x19⟩)]⟩ : St)) (TmpsLe.refl _) (.same (.arr (leL_of_eq rfl (fun k_ hk_ => (congrArg (AV.eraseAll (fun n_ => memB n_ [2, 8, 9, 24, 70024])) ((flat_chunk (n := 64) (sz := 1) (f := (Q111 x21)) (fun _ _ => rfl)) k_ hk_)).trans rfl)) (.same (.same .nil))))) ?_
        refine awp_seq ?_
        refine awp_label ?_
        refine then_normal ?_
        refine awp_seq ?_
        obtain ⟨hc23, h⟩ := chk_some h
        obtain ⟨x24, hx24, h⟩ := bind_some h
        refine rgs [⟨[], [], (.int .i64 x24), [], [8]⟩] [] (⟨(Q125 a_g x19 x24), (Q118 x21 x22 x19), [(70024, ⟨1, 3, famM x19⟩)]⟩ : St) [(0 ≤ (Q102 a_g) ∧ 0 + ((Q102 a_g)).toNat ≤ 64), (Spec Try.prog 25 [(.slice 1 ((0 + ((Q102 a_g)).toNat) - 0) (fun i => AV.stripAll ((Q111 x21) (0 + i))) .none), (.bool false)] [] (.int .i64 x24) []), (flatH []), (64 = 64)] hn mix (no_hand hΓ) (by kernel_rfl) ⟨hc23, (Spec.args (.cons (sub_le (e := eB) (d := false) (l := x21) (fun _ => rfl)) (.cons (AVle.refl _) .nil)) (ok_slices_Index_bool_bool (subN false x21 0 ((0 + ((Q102 a_g)).toNat) - 0)) false x24 hx24)), trivial, rfl, trivial⟩ ?_
        refine rgs0 (⟨[(2, (.ptr 2 0)), (4, (Q114 a_g)), (5, (.vsl 24 x19.length)), (8, (.vpt 8 64 0 0)), (9, (.ptr 9 0)), (10, (.int .i64 x24)), (55, (.bool (decide (((0 : Int) : Int) ≤ x24))))], (Q118 x21 x22 x19), [(70024, ⟨1, 3, famM x19⟩)]⟩ : St) hn mix (no_hand hΓ) (by kernel_rfl) ?_
        refine awp_cond (decide (((0 : Int) : Int) ≤ x24)) (by kernel_rfl) (fun hb => ?_) (fun hb => ?_)
        · replace h := cond_t hb h
          clear hb
          refine awp_seq ?_
          obtain ⟨hc25, h⟩ := chk_some h
          obtain ⟨hc26, h⟩ := chk_some h
          obtain ⟨hc27, h⟩ := chk_some h
          obtain ⟨hc28, h⟩ := chk_some h
          refine awp_le (Le.trans (le_take (r := 24) (b := 70024) (k := 60024) eI64 (0 : Int) x19 (x24).toNat 3 rfl rfl rfl rfl (inB_lit hc25) (by kernel_rfl) (.row (by kernel_rfl) (.arr (fun _ => by kernel_rfl) (.row (by kernel_rfl) (.here .nil))))) (le_eq (st' := (⟨[(2, (.ptr 2 0)), (4, (Q114 a_g)), (5, (.vsl 24 x19.length)), (8, (.vpt 8 64 0 0)), (9, (.ptr 9 0)), (10, (.int .i64 x24)), (55, (.bool (decide (((0 : Int) : Int) ≤ x24))))], [(2, .row 26 Q101), (8, .arr 1 45 64 (Q111 x21)), (9, .row 26 (Q104 x22)), (24, .arr 1 30 x19.length (rowF 1 eI64 (0 : Int) x19 (famTag 70024 (x24).toNat 60024))), (60024, .tok 1 3 ((Q107 x19 x24).length))], [(70024, ⟨1, 3, holeM x19 (x24).toNat⟩)]⟩ : St)) (by kernel_rfl))) ?_
          refine rg [] [(61, (AV.list 1 eI64 (0 : Int) (Q107 x19 x24) (.own 60024))), (63, (AV.list 1 eI64 (0 : Int) (Q113 a_g) .exact)), (64, (AV.list 1 eI64 (0 : Int) ((Q107 x19 x24) ++ (Q113 a_g)) (.own 60024)))] (⟨(Q125 a_g x19 x24), [(2, .row 26 Q101), (8, .arr 1 45 64 (Q111 x21)), (9, .row 26 (Q104 x22)), (24, .arr 1 30 x19.length (fun i_ => AV.eraseAll (fun n_ => memB n_ [2, 8, 9, 24, 60024, 70024]) ((putF (rowF 1 eI64 (0 : Int) x19 (famTag 70024 (x24).toNat 60024)) (x24).toNat 0 [(AV.list 1 eI64 (0 : Int) ((Q107 x19 x24) ++ (Q113 a_g)) (.own 60024))]) i_))), (60024, .tok 1 3 (((Q107 x19 x24) ++ (Q113 a_g)).length))], [(70024, ⟨1, 3, holeM x19 (x24).toNat⟩)]⟩ : St) [(InB x24 x19.length), (x19.length = x19.length), (AVle (((rowF 1 eI64 (0 : Int) x19 (famTag 70024 (x24).toNat 60024)) (x24).toNat).getD 0 .any) (AV.list 1 eI64 (0 : Int) (Q107 x19 x24) (.own 60024))), (Q124 a_g), ((Q107 x19 x24).length = (Q107 x19 x24).length), ((Q107 x19 x24).length + (Q113 a_g).length ≤ room), (AVle (.slice 1 ((Q107 x19 x24).length + (Q113 a_g).length) (appF (Q107 x19 x24).length (fun i => eI64 ((Q107 x19 x24).getD i (0 : Int))) (fun i => eI64 ((Q113 a_g).getD i (0 : Int)))) (.own 60024)) (AV.list 1 eI64 (0 : Int) ((Q107 x19 x24) ++ (Q113 a_g)) (.own 60024))), ((Q107 x19 x24).length + (Q113 a_g).length = ((Q107 x19 x24) ++ (Q113 a_g)).length), (InB x24 x19.length), (x19.length = x19.length)] hn mix (no_hand hΓ) (by kernel_rfl) ⟨hc26, rfl, av_famtag, (av_lit rfl (fun i hi => map_get (e := eI64) (d := (0 : Int)) (Q113 a_g) i hi)), rfl, hc27, av_app, (len_app _ _), hc28, rfl, trivial⟩ ?_
          refine then_normal ?_
          refine awp_le (Le.trans (Le.trans (le_put (r := 24) (b := 70024) (k := 60024) eI64 (0 : Int) x19 (x24).toNat ((Q107 x19 x24) ++ (Q113 a_g)) 3 rfl (putF_fam (inB_lit hc25) rfl rfl) rfl rfl rfl rfl (inB_lit hc25) (by kernel_rfl) (.row (by kernel_rfl) (.arr (fun _ => by kernel_rfl) (.row (by kernel_rfl) (.here (.tok .nil))))) (by rw [hΓ]; rfl)) (le_eq (st' := (⟨(Q125 a_g x19 x24), [(2, .row 26 Q101), (8, .arr 1 45 64 (Q111 x21)), (9, .row 26 (Q104 x22)), (24, .arr 1 30 x19.length (rowF 1 eI64 (0 : Int) (Q122 x19 x24 a_g) (Tag.fam 70024)))], [(70024, ⟨1, 3, famM (Q122 x19 x24 a_g)⟩)]⟩ : St)) (by kernel_rfl))) (le_eq (congrArg (fun k_ : Nat => (⟨[(2, (.ptr 2 0)), (4, (Q114 a_g)), (5, (.vsl 24 k_)), (8, (.vpt 8 64 0 0)), (9, (.ptr 9 0)), (10, (.int .i64 x24))], [(2, .row 26 Q101), (8, .arr 1 45 64 (Q111 x21)), (9, .row 26 (Q104 x22)), (24, .arr 1 30 k_ (rowF 1 eI64 (0 : Int) (Q122 x19 x24 a_g) (Tag.fam 70024)))], [(70024, ⟨1, 3, famM (Q122 x19 x24 a_g)⟩)]⟩ : St)) (show x19.length = (Q122 x19 x24 a_g).length from (List.length_set ..).symm)))) ?_
          obtain ⟨x29, hx29, h⟩ := bind_some h
          refine rgs [⟨[(8, 34000)], [], (.tuple []), [(34000, .arr 1 45 64 (fun i => eB (x29.getD i false)))], []⟩] [] (⟨[(2, (.ptr 2 0)), (4, (Q114 a_g)), (5, (.vsl 24 (Q122 x19 x24 a_g).length)), (8, (.vpt 8 64 0 0)), (9, (.ptr 9 0))], [(2, .row 26 Q101), (8, .arr 1 45 64 (fun i => eB (x29.getD i false))), (9, .row 26 (Q104 x22)), (24, .arr 1 30 ((Q122 x19 x24 a_g).length) (rowF 1 eI64 (0 : Int) (Q122 x19 x24 a_g) (Tag.fam 70024)))], [(70024, ⟨1, 3, famM (Q122 x19 x24 a_g)⟩)]⟩ : St) [(Spec Try.prog 26 [(.vpt 34000 64 0 0), (.agg (eTGraph x22)), (.int .i64 x24)] [(34000, .arr 1 45 64 (Q111 x21))] (.tuple []) [(34000, .arr 1 45 64 (fun i => eB (x29.getD i false)))])] hn mix (no_hand hΓ) (by kernel_rfl) ⟨(ok_pdom_marks_mark x21 x22 x24 x29 hx29), trivial⟩ ?_
          refine awp_goto ?_
          refine then_goto ?_
          obtain rfl := Option.some.inj h
          exact ⟨rfl, rfl, Le.refl _ _⟩
        · replace h := cond_f hb h
          clear hb
          refine awp_skip ?_
          refine then_normal ?_
          refine awp_seq ?_
          refine awp_le (Le.trans (le_freeze (nm := 24) (sz := 1) (n := x19.length) (e := 30) (f := (rowF 1 eI64 (0 : Int) x19 (Tag.fam 70024))) (g := (fun i => eLI64 (x19.getD i []))) rfl ⟨rfl, trivial⟩ (fun _ _ => rfl) (by rw [hΓ]; rfl)) (le_restrict_eq (st' := (⟨[(2, (.ptr 2 0)), (4, (Q114 a_g)), (5, (AV.list 1 eLI64 [] x19 (.own 24))), (8, (.vpt 8 64 0 0)), (9, (.ptr 9 0)), (10, (.int .i64 x24)), (55, (.bool (decide (((0 : Int) : Int) ≤ x24))))], [(2, .row 26 Q101), (8, .arr 1 45 64 (Q111 x21)), (9, .row 26 (Q104 x22)), (24, .tok 1 30 x19.length)], []⟩ : St)) [2, 4, 5, 8, 9, 10, 55] [2, 8, 9, 24] (by kernel_rfl) (no_hand hΓ))) ?_
          obtain ⟨x30, hx30, h⟩ := bind_some h
          refine rg [⟨[], [], (.tuple [(.agg (eTGraph x30.1)), (.int .i64 x30.2)]), [], []⟩] [] (⟨[(2, (.ptr 2 0)), (3, (.int .i64 x30.2))], [(2, .row 26 [(AV.list 1 eLI64 [] x30.1.Succ .none), (AV.list 1 eLI64 [] x30.1.Pred .none)])], []⟩ : St) [(Spec Try.prog 9 [(AV.list 1 eLI64 [] x19 .none)] [] (.tuple [(.agg (eTGraph x30.1)), (.int .i64 x30.2)]) [])] hn mix (no_hand hΓ) (by kernel_rfl) ⟨(ok_graph_Make x19 x30 hx30), trivial⟩ ?_
          refine then_normal ?_
          refine awp_ret ?_
          obtain rfl := Option.some.inj h
          exact ⟨(by intro l hh; cases hh), rfl, ⟨.inl rfl, [], by kernel_rfl⟩⟩
  · clear h hx39
    rintro ⟨l1, l2, l3, l4⟩ y rest hf h
    obtain rfl := Option.some.inj hf
    clear hf
    unfold m_pdom_Exit_F2 at h
    refine awp_seq ?_
    refine awp_skip ?_
    refine then_normal ?_
    refine awp_seq ?_
    obtain ⟨hc31, h⟩ := chk_some h
    obtain ⟨x32, hx32, h⟩ := bind_some h
    refine rgs [⟨[], [], (.int .i64 x32), [], [8]⟩] [] (⟨(Q126 a_g l4 x32), (Q119 l1 l2 l3 l4), [(70024, ⟨1, 3, famM l4⟩)]⟩ : St) [(0 ≤ (Q102 a_g) ∧ 0 + ((Q102 a_g)).toNat ≤ 64), (Spec Try.prog 25 [(.slice 1 ((0 + ((Q102 a_g)).toNat) - 0) (fun i => AV.stripAll ((Q112 l1) (0 + i))) .none), (.bool false)] [] (.int .i64 x32) []), (flatH []), (64 = 64)] hn mix (no_hand hΓ) (by kernel_rfl) ⟨hc31, (Spec.args (.cons (sub_le (e := eB) (d := false) (l := l1) (fun _ => rfl)) (.cons (AVle.refl _) .nil)) (ok_slices_Index_bool_bool (subN false l1 0 ((0 + ((Q102 a_g)).toNat) - 0)) false x32 hx32)), trivial, rfl, trivial⟩ ?_
    refine rgs0 (⟨(Q130 a_g l4 x32), (Q119 l1 l2 l3 l4), [(70024, ⟨1, 3, famM l4⟩)]⟩ : St) hn mix (no_hand hΓ) (by kernel_rfl) ?_
    refine awp_cond (decide (((0 : Int) : Int) ≤ x32)) (by kernel_rfl) (fun hb => ?_) (fun hb => ?_)
    · replace h := cond_t hb h
      clear hb
      refine awp_seq ?_
      obtain ⟨hc33, h⟩ := chk_some h
      obtain ⟨hc34, h⟩ := chk_some h
      obtain ⟨hc35, h⟩ := chk_some h
      obtain ⟨hc36, h⟩ := chk_some h
      refine awp_le (Le.trans (le_take (r := 24) (b := 70024) (k := 60024) eI64 (0 : Int) l4 (x32).toNat 3 rfl rfl rfl rfl (inB_lit hc33) (by kernel_rfl) (.row (by kernel_rfl) (.arr (fun _ => by kernel_rfl) (.row (by kernel_rfl) (.here .nil))))) (le_eq (st' := (⟨(Q130 a_g l4 x32), [(2, .row 26 Q101), (8, .arr 1 45 64 (Q112 l1)), (9, .row 26 (Q105 l2 l3)), (24, .arr 1 30 l4.length (rowF 1 eI64 (0 : Int) l4 (famTag 70024 (x32).toNat 60024))), (60024, .tok 1 3 ((Q108 l4 x32).length))], [(70024, ⟨1, 3, holeM l4 (x32).toNat⟩)]⟩ : St)) (by kernel_rfl))) ?_
      refine rg [] [(61, (AV.list 1 eI64 (0 : Int) (Q108 l4 x32) (.own 60024))), (63, (AV.list 1 eI64 (0 : Int) (Q113 a_g) .exact)), (64, (AV.list 1 eI64 (0 : Int) ((Q108 l4 x32) ++ (Q113 a_g)) (.own 60024)))] (⟨(Q126 a_g l4 x32), [(2, .row 26 Q101), (8, .arr 1 45 64 (Q112 l1)), (9, .row 26 (Q105 l2 l3)), (24, .arr 1 30 l4.length (fun i_ => AV.eraseAll (fun n_ => memB n_ [2, 8, 9, 24, 60024, 70024]) ((putF (rowF 1 eI64 (0 : Int) l4 (famTag 70024 (x32).toNat 60024)) (x32).toNat 0 [(AV.list 1 eI64 (0 : Int) ((Q108 l4 x32) ++ (Q113 a_g)) (.own 60024))]) i_))), (60024, .tok 1 3 (((Q108 l4 x32) ++ (Q113 a_g)).length))], [(70024, ⟨1, 3, holeM l4 (x32).toNat⟩)]⟩ : St) [(InB x32 l4.length), (l4.length = l4.length), (AVle (((rowF 1 eI64 (0 : Int) l4 (famTag 70024 (x32).toNat 60024)) (x32).toNat).getD 0 .any) (AV.list 1 eI64 (0 : Int) (Q108 l4 x32) (.own 60024))), (Q124 a_g), ((Q108 l4 x32).length = (Q108 l4 x32).length), ((Q108 l4 x32).length + (Q113 a_g).length ≤ room), (AVle (.slice 1 ((Q108 l4 x32).length + (Q113 a_g).length) (appF (Q108 l4 x32).length (fun i => eI64 ((Q108 l4 x32).getD i (0 : Int))) (fun i => eI64 ((Q113 a_g).getD i (0 : Int)))) (.own 60024)) (AV.list 1 eI64 (0 : Int) ((Q108 l4 x32) ++ (Q113 a_g)) (.own 60024))), ((Q108 l4 x32).length + (Q113 a_g).length = ((Q108 l4 x32) ++ (Q113 a_g)).length), (InB x32 l4.length), (l4.length = l4.length)] hn mix (no_hand hΓ) (by kernel_rfl) ⟨hc34, rfl, av_famtag, (av_lit rfl (fun i hi => map_get (e := eI64) (d := (0 : Int)) (Q113 a_g) i hi)), rfl, hc35, av_app, (len_app _ _), hc36, rfl, trivial⟩ ?_
      refine then_normal ?_
      refine awp_le (Le.trans (Le.trans (le_put (r := 24) (b := 70024) (k := 60024) eI64 (0 : Int) l4 (x32).toNat ((Q108 l4 x32) ++ (Q113 a_g)) 3 rfl (putF_fam (inB_lit hc33) rfl rfl) rfl rfl rfl rfl (inB_lit hc33) (by kernel_rfl) (.row (by kernel_rfl) (.arr (fun _ => by kernel_rfl) (.row (by kernel_rfl) (.here (.tok .nil))))) (by rw [hΓ]; rfl)) (le_eq (st' := (⟨(Q126 a_g l4 x32), [(2, .row 26 Q101), (8, .arr 1 45 64 (Q112 l1)), (9, .row 26 (Q105 l2 l3)), (24, .arr 1 30 l4.length (rowF 1 eI64 (0 : Int) (Q123 l4 x32 a_g) (Tag.fam 70024)))], [(70024, ⟨1, 3, famM (Q123 l4 x32 a_g)⟩)]⟩ : St)) (by kernel_rfl))) (le_eq (congrArg (fun k_ : Nat => (⟨[(2, (.ptr 2 0)), (4, (Q114 a_g)), (5, (.vsl 24 k_)), (8, (.vpt 8 64 0 0)), (9, (.ptr 9 0)), (10, (.int .i64 x32))], [(2, .row 26 Q101), (8, .arr 1 45 64 (Q112 l1)), (9, .row 26 (Q105 l2 l3)), (24, .arr 1 30 k_ (rowF 1 eI64 (0 : Int) (Q123 l4 x32 a_g) (Tag.fam 70024)))], [(70024, ⟨1, 3, famM (Q123 l4 x32 a_g)⟩)]⟩ : St)) (show l4.length = (Q123 l4 x32 a_g).length from (List.length_set ..).symm)))) ?_
      obtain ⟨x37, hx37, h⟩ := bind_some h
      refine rgs [⟨[(8, 34000)], [], (.tuple []), [(34000, .arr 1 45 64 (fun i => eB (x37.getD i false)))], []⟩] [] (⟨[(2, (.ptr 2 0)), (4, (Q114 a_g)), (5, (.vsl 24 (Q123 l4 x32 a_g).length)), (8, (.vpt 8 64 0 0)), (9, (.ptr 9 0))], [(2, .row 26 Q101), (8, .arr 1 45 64 (fun i => eB (x37.getD i false))), (9, .row 26 (Q105 l2 l3)), (24, .arr 1 30 ((Q123 l4 x32 a_g).length) (rowF 1 eI64 (0 : Int) (Q123 l4 x32 a_g) (Tag.fam 70024)))], [(70024, ⟨1, 3, famM (Q123 l4 x32 a_g)⟩)]⟩ : St) [(Spec Try.prog 26 [(.vpt 34000 64 0 0), (.agg (Q105 l2 l3)), (.int .i64 x32)] [(34000, .arr 1 45 64 (Q112 l1))] (.tuple []) [(34000, .arr 1 45 64 (fun i => eB (x37.getD i false)))])] hn mix (no_hand hΓ) (by kernel_rfl) ⟨(ok_pdom_marks_mark l1 (⟨l2, l3⟩ : TGraph) x32 x37 hx37), trivial⟩ ?_
      refine awp_goto ?_
      refine then_goto ?_
      obtain rfl := Option.some.inj h
      exact ⟨rfl, rfl, Le.refl _ _⟩
    · replace h := cond_f hb h
      clear hb
      refine awp_skip ?_
      refine then_normal ?_
      refine awp_seq ?_
      refine awp_le (Le.trans (le_freeze (nm := 24) (sz := 1) (n := l4.length) (e := 30) (f := (rowF 1 eI64 (0 : Int) l4 (Tag.fam 70024))) (g := (fun i => eLI64 (l4.getD i []))) rfl ⟨rfl, trivial⟩ (fun _ _ => rfl) (by rw [hΓ]; rfl)) (le_restrict_eq (st' := (⟨[(2, (.ptr 2 0)), (4, (Q114 a_g)), (5, (AV.list 1 eLI64 [] l4 (.own 24))), (8, (.vpt 8 64 0 0)), (9, (.ptr 9 0)), (10, (.int .i64 x32)), (55, (.bool (decide (((0 : Int) : Int) ≤ x32))))], [(2, .row 26 Q101), (8, .arr 1 45 64 (Q112 l1)), (9, .row 26 (Q105 l2 l3)), (24, .tok 1 30 l4.length)], []⟩ : St)) [2, 4, 5, 8, 9, 10, 55] [2, 8, 9, 24] (by kernel_rfl) (no_hand hΓ))) ?_
      obtain ⟨x38, hx38, h⟩ := bind_some h
      refine rg [⟨[], [], (.tuple [(.agg (eTGraph x38.1)), (.int .i64 x38.2)]), [], []⟩] [] (⟨[(2, (.ptr 2 0)), (3, (.int .i64 x38.2))], [(2, .row 26 [(AV.list 1 eLI64 [] x38.1.Succ .none), (AV.list 1 eLI64 [] x38.1.Pred .none)])], []⟩ : St) [(Spec Try.prog 9 [(AV.list 1 eLI64 [] l4 .none)] [] (.tuple [(.agg (eTGraph x38.1)), (.int .i64 x38.2)]) [])] hn mix (no_hand hΓ) (by kernel_rfl) ⟨(ok_graph_Make l4 x38 hx38), trivial⟩ ?_
      refine then_normal ?_
      refine awp_ret ?_
      obtain rfl := Option.some.inj h
      exact ⟨(by intro l hh; cases hh), rfl, ⟨.inl rfl, [], by kernel_rfl⟩⟩
  · clear hx39
    rintro e st' ⟨rfl, hk⟩
    obtain rfl := Option.some.inj h
    exact hk

noncomputable def m_bits_Mul32 (a_x : Int) (a_y : Int) : Option (Int × Int) :=
  (some ((IntKind.wrap .u32 (shrV .u64 (wu64 ((wu64 a_x) * (wu64 a_y))) (32 : Int))), (IntKind.wrap .u32 (wu64 ((wu64 a_x) * (wu64 a_y))))))
theorem ok_bits_Mul32 (a_x : Int) (a_y : Int) (r : (Int × Int)) (h : m_bits_Mul32 a_x a_y = some r) : Spec Try.prog 41 [(.int .u32 a_x), (.int .u32 a_y)] [] (.tuple [(.int .u32 r.1), (.int .u32 r.2)]) [] := by
  refine spec_of_awp (fn := Try.f41) Try.func41 rfl rfl (by kernel_rfl) (fun Γ hn hΓ => ?_)
  have hn : Γ.n = 17 := hn
  unfold m_bits_Mul32 at h
  refine rgs0 (⟨[(0, (.int .u32 a_x)), (1, (.int .u32 a_y))], [], []⟩ : St) hn mix (no_hand hΓ) (by kernel_rfl) ?_
  refine rgs0 (⟨[(6, (.int .u64 (wu64 ((wu64 a_x) * (wu64 a_y)))))], [], []⟩ : St) hn mix (no_hand hΓ) (by kernel_rfl) ?_
  refine rgs [] [] (⟨[(4, (.int .u32 (IntKind.wrap .u32 (shrV .u64 (wu64 ((wu64 a_x) * (wu64 a_y))) (32 : Int))))), (5, (.int .u32 (IntKind.wrap .u32 (wu64 ((wu64 a_x) * (wu64 a_y))))))], [], []⟩ : St) [(0 ≤ (32 : Int))] hn mix (no_hand hΓ) (by kernel_rfl) ⟨(by decide), trivial⟩ ?_
  refine awp_ret ?_
  obtain rfl := Option.some.inj h
  exact ⟨.inl rfl, [], by kernel_rfl⟩

noncomputable def Q135 (a_y : Int) := (shrV .u64 a_y (32 : Int))
noncomputable def Q134 (a_x : Int) : AV := (.int .u64 (shrV .u64 a_x (32 : Int)))
noncomputable def Q133 (a_x : Int) : AV := (.int .u64 (bitsV .and .u64 a_x (4294967295 : Int)))
noncomputable def Q132 (a_x : Int) (a_y : Int) := (wu64 ((wu64 ((shrV .u64 a_x (32 : Int)) * (bitsV .and .u64 a_y (4294967295 : Int)))) + (shrV .u64 (wu64 ((bitsV .and .u64 a_x (4294967295 : Int)) * (bitsV .and .u64 a_y (4294967295 : Int)))) (32 : Int))))
noncomputable def Q136 (a_x : Int) (a_y : Int) : AV := (.int .u64 (wu64 ((wu64 ((wu64 ((shrV .u64 a_x (32 : Int)) * (Q135 a_y))) + (shrV .u64 (Q132 a_x a_y) (32 : Int)))) + (shrV .u64 (wu64 ((bitsV .and .u64 (Q132 a_x a_y) (4294967295 : Int)) + (wu64 ((bitsV .and .u64 a_x (4294967295 : Int)) * (Q135 a_y))))) (32 : Int)))))
noncomputable def m_bits_Mul64 (a_x : Int) (a_y : Int) : Option (Int × Int) :=
  (some ((wu64 ((wu64 ((wu64 ((shrV .u64 a_x (32 : Int)) * (shrV .u64 a_y (32 : Int)))) + (shrV .u64 (wu64 ((wu64 ((shrV .u64 a_x (32 : Int)) * (bitsV .and .u64 a_y (4294967295 : Int)))) + (shrV .u64 (wu64 ((bitsV .and .u64 a_x (4294967295 : Int)) * (bitsV .and .u64 a_y (4294967295 : Int)))) (32 : Int)))) (32 : Int)))) + (shrV .u64 (wu64 ((bitsV .and .u64 (wu64 ((wu64 ((shrV .u64 a_x (32 : Int)) * (bitsV .and .u64 a_y (4294967295 : Int)))) + (shrV .u64 (wu64 ((bitsV .and .u64 a_x (4294967295 : Int)) * (bitsV .and .u64 a_y (4294967295 : Int)))) (32 : Int)))) (4294967295 : Int)) + (wu64 ((bitsV .and .u64 a_x (4294967295 : Int)) * (shrV .u64 a_y (32 : Int)))))) (32 : Int)))), (wu64 (a_x * a_y))))
theorem ok_bits_Mul64 (a_x : Int) (a_y : Int) (r : (Int × Int)) (h : m_bits_Mul64 a_x a_y = some r) : Spec Try.prog 42 [(.int .u64 a_x), (.int .u64 a_y)] [] (.tuple [(.int .u64 r.1), (.int .u64 r.2)]) [] := by
  refine spec_of_awp (fn := Try.f42) Try.func42 rfl rfl (by kernel_rfl) (fun Γ hn hΓ => ?_)
  have hn : Γ.n = 51 := hn
  unfold m_bits_Mul64 at h
  refine rgs0 (⟨[(0, (.int .u64 a_x)), (1, (.int .u64 a_y))], [], []⟩ : St) hn mix (no_hand hΓ) (by kernel_rfl) ?_
  refine rgs0 (⟨[(0, (.int .u64 a_x)), (1, (.int .u64 a_y)), (6, (Q133 a_x))], [], []⟩ : St) hn mix (no_hand hΓ) (by kernel_rfl) ?_
  refine rgs [] [] (⟨[(0, (.int .u64 a_x)), (1, (.int .u64 a_y)), (6, (Q133 a_x)), (7, (Q134 a_x))], [], []⟩ : St) [(0 ≤ (32 : Int))] hn mix (no_hand hΓ) (by kernel_rfl) ⟨(by decide), trivial⟩ ?_
  refine rgs0 (⟨[(0, (.int .u64 a_x)), (1, (.int .u64 a_y)), (6, (Q133 a_x)), (7, (Q134 a_x)), (8, (.int .u64 (bitsV .and .u64 a_y (4294967295 : Int))))], [], []⟩ : St) hn mix (no_hand hΓ) (by kernel_rfl) ?_
  refine rgs [] [] (⟨[(0, (.int .u64 a_x)), (1, (.int .u64 a_y)), (6, (Q133 a_x)), (7, (Q134 a_x)), (8, (.int .u64 (bitsV .and .u64 a_y (4294967295 : Int)))), (9, (.int .u64 (Q135 a_y)))], [], []⟩ : St) [(0 ≤ (32 : Int))] hn mix (no_hand hΓ) (by kernel_rfl) ⟨(by decide), trivial⟩ ?_
  refine rgs0 (⟨[(0, (.int .u64 a_x)), (1, (.int .u64 a_y)), (6, (Q133 a_x)), (7, (Q134 a_x)), (8, (.int .u64 (bitsV .and .u64 a_y (4294967295 : Int)))), (9, (.int .u64 (Q135 a_y))), (10, (.int .u64 (wu64 ((bitsV .and .u64 a_x (4294967295 : Int)) * (bitsV .and .u64 a_y (4294967295 : Int))))))], [], []⟩ : St) hn mix (no_hand hΓ) (by kernel_rfl) ?_
  refine rgs [] [] (⟨[(0, (.int .u64 a_x)), (1, (.int .u64 a_y)), (6, (Q133 a_x)), (7, (Q134 a_x)), (9, (.int .u64 (Q135 a_y))), (11, (.int .u64 (Q132 a_x a_y)))], [], []⟩ : St) [(0 ≤ (32 : Int))] hn mix (no_hand hΓ) (by kernel_rfl) ⟨(by decide), trivial⟩ ?_
  refine rgs0 (⟨[(0, (.int .u64 a_x)), (1, (.int .u64 a_y)), (6, (Q133 a_x)), (7, (Q134 a_x)), (9, (.int .u64 (Q135 a_y))), (11, (.int .u64 (Q132 a_x a_y))), (12, (.int .u64 (bitsV .and .u64 (Q132 a_x a_y) (4294967295 : Int))))], [], []⟩ : St) hn mix (no_hand hΓ) (by kernel_rfl) ?_
  refine rgs [] [] (⟨[(0, (.int .u64 a_x)), (1, (.int .u64 a_y)), (6, (Q133 a_x)), (7, (Q134 a_x)), (9, (.int .u64 (Q135 a_y))), (12, (.int .u64 (bitsV .and .u64 (Q132 a_x a_y) (4294967295 : Int)))), (13, (.int .u64 (shrV .u64 (Q132 a_x a_y) (32 : Int))))], [], []⟩ : St) [(0 ≤ (32 : Int))] hn mix (no_hand hΓ) (by kernel_rfl) ⟨(by decide), trivial⟩ ?_
  refine rgs0 (⟨[(0, (.int .u64 a_x)), (1, (.int .u64 a_y)), (7, (Q134 a_x)), (9, (.int .u64 (Q135 a_y))), (12, (.int .u64 (wu64 ((bitsV .and .u64 (Q132 a_x a_y) (4294967295 : Int)) + (wu64 ((bitsV .and .u64 a_x (4294967295 : Int)) * (Q135 a_y))))))), (13, (.int .u64 (shrV .u64 (Q132 a_x a_y) (32 : Int))))], [], []⟩ : St) hn mix (no_hand hΓ) (by kernel_rfl) ?_
  refine rgs [] [] (⟨[(0, (.int .u64 a_x)), (1, (.int .u64 a_y)), (4, (Q136 a_x a_y))], [], []⟩ : St) [(0 ≤ (32 : Int))] hn mix (no_hand hΓ) (by kernel_rfl) ⟨(by decide), trivial⟩ ?_
  refine rgs0 (⟨[(4, (Q136 a_x a_y)), (5, (.int .u64 (wu64 (a_x * a_y))))], [], []⟩ : St) hn mix (no_hand hΓ) (by kernel_rfl) ?_
  refine awp_ret ?_
  obtain rfl := Option.some.inj h
  exact ⟨.inl rfl, [], by kernel_rfl⟩

noncomputable def m_bits_Mul (a_x : Int) (a_y : Int) : Option (Int × Int) :=
  (bif false then ((m_bits_Mul32 (IntKind.wrap .u32 a_x) (IntKind.wrap .u32 a_y)).bind fun x1 => (some ((wu64 x1.1), (wu64 x1.2)))) else ((m_bits_Mul64 a_x a_y).bind fun x2 => (some (x2.1, x2.2))))
theorem ok_bits_Mul (a_x : Int) (a_y : Int) (r : (Int × Int)) (h : m_bits_Mul a_x a_y = some r) : Spec Try.prog 38 [(.int .u64 a_x), (.int .u64 a_y)] [] (.tuple [(.int .u64 r.1), (.int .u64 r.2)]) [] := by
  refine spec_of_awp (fn := Try.f38) Try.func38 rfl rfl (by kernel_rfl) (fun Γ hn hΓ => ?_)
  have hn : Γ.n = 30 := hn
  unfold m_bits_Mul at h
  refine rgs0 (⟨[(0, (.int .u64 a_x)), (1, (.int .u64 a_y))], [], []⟩ : St) hn mix (no_hand hΓ) (by kernel_rfl) ?_
  refine awp_seq ?_
  refine awp_cond false (by kernel_rfl) (fun hb => ?_) (fun hb => ?_)
  · replace h := cond_t hb h
    clear hb
    obtain ⟨x1, hx1, h⟩ := bind_some h
    refine rgs [⟨[], [], (.tuple [(.int .u32 x1.1), (.int .u32 x1.2)]), [], []⟩] [] (⟨[(6, (.int .u32 x1.1)), (7, (.int .u32 x1.2))], [], []⟩ : St) [(Spec Try.prog 41 [(.int .u32 (IntKind.wrap .u32 a_x)), (.int .u32 (IntKind.wrap .u32 a_y))] [] (.tuple [(.int .u32 x1.1), (.int .u32 x1.2)]) [])] hn mix (no_hand hΓ) (by kernel_rfl) ⟨(ok_bits_Mul32 (IntKind.wrap .u32 a_x) (IntKind.wrap .u32 a_y) x1 hx1), trivial⟩ ?_
    refine rgs0 (⟨[(4, (.int .u64 (wu64 x1.1))), (5, (.int .u64 (wu64 x1.2)))], [], []⟩ : St) hn mix (no_hand hΓ) (by kernel_rfl) ?_
    refine awp_ret ?_
    refine then_ret ?_
    obtain rfl := Option.some.inj h
    exact ⟨.inl rfl, [], by kernel_rfl⟩
  · replace h := cond_f hb h
    clear hb
    refine awp_skip ?_
    refine then_normal ?_
    obtain ⟨x2, hx2, h⟩ := bind_some h
    refine rgs [⟨[], [], (.tuple [(.int .u64 x2.1), (.int .u64 x2.2)]), [], []⟩] [] (⟨[(8, (.int .u64 x2.1)), (9, (.int .u64 x2.2))], [], []⟩ : St) [(Spec Try.prog 42 [(.int .u64 a_x), (.int .u64 a_y)] [] (.tuple [(.int .u64 x2.1), (.int .u64 x2.2)]) [])] hn mix (no_hand hΓ) (by kernel_rfl) ⟨(ok_bits_Mul64 a_x a_y x2 hx2), trivial⟩ ?_
    refine rgs0 (⟨[(4, (.int .u64 x2.1)), (5, (.int .u64 x2.2))], [], []⟩ : St) hn mix (no_hand hΓ) (by kernel_rfl) ?_
    refine awp_ret ?_
    obtain rfl := Option.some.inj h
    exact ⟨.inl rfl, [], by kernel_rfl⟩

noncomputable def m_slices_Repeat_int_int_L1  : (Int × List (Int)) → Option (LR (Int × List (Int)) (List (Int))) :=
  fun ((i7, l8) : (Int × List (Int))) => (bif (decide ((i7 : Int) < (l8.length : Int))) then (chk (0 ≤ i7 ∧ 0 + (i7).toNat ≤ l8.length) (chk (0 ≤ i7 ∧ 0 + (i7).toNat ≤ l8.length) (some (.next ((w64 (i7 + ((Nat.min ((0 + (i7).toNat) - 0) (l8.length - (0 + (i7).toNat))) : Int))), (cpL l8 (0 + (i7).toNat) (Nat.min ((0 + (i7).toNat) - 0) (l8.length - (0 + (i7).toNat))) (fun i => l8.getD (0 + i) (0 : Int)))))))) else (some (.done l8)))
noncomputable def Q140 (x3 : (Int × Int)) := (decide (((0 : Int) : Int) < x3.1))
noncomputable def Q139 (a_x : List (Int)) : AV := (AV.list 1 eI64 (0 : Int) a_x .none)
noncomputable def Q137 (x3 : (Int × Int)) := (List.replicate ((w64 x3.2)).toNat (0 : Int))
noncomputable def Q142 (a_x : List (Int)) (x3 : (Int × Int)) := (Nat.min a_x.length ((Q137 x3).length - 0))
noncomputable def Q138 (i7 : Int) (l8 : List (Int)) := (Nat.min ((0 + (i7).toNat) - 0) (l8.length - (0 + (i7).toNat)))
noncomputable def Q144 (x3 : (Int × Int)) (a_x : List (Int)) := (cpL (Q137 x3) 0 (Q142 a_x x3) (fun i => a_x.getD i (0 : Int)))
noncomputable def Q143 (l8 : List (Int)) (i7 : Int) := (cpL l8 (0 + (i7).toNat) (Q138 i7 l8) (fun i => l8.getD (0 + i) (0 : Int)))
noncomputable def Q141 (l8 : List (Int)) (i7 : Int) := (⟨[(7, (.vsl 30 l8.length)), (8, (.int .i64 i7))], [(30, .arr 1 3 l8.length (fun i => eI64 (l8.getD i (0 : Int))))], []⟩ : St)
noncomputable def m_slices_Repeat_int_int (a_x : List (Int)) (a_count : Int) : Option (List (Int)) :=
  (Option.bind (α := Unit) (bif (decide ((a_count : Int) < (0 : Int))) then none else (some (()))) (fun x1 => (match x1 with | _ => ((m_bits_Mul (wu64 (a_x.length : Int)) (wu64 a_count)).bind fun x3 => (Option.bind (α := Unit) (bif (bif (decide (((0 : Int) : Int) < x3.1)) then true else (decide (((9223372036854775807 : Int) : Int) < x3.2))) then none else (some (()))) (fun x4 => (match x4 with | _ => (chk (0 ≤ (w64 x3.2) ∧ (w64 x3.2) ≤ (w64 x3.2) ∧ (w64 x3.2) ≤ (room : Int)) ((loopO (S := (Int × List (Int))) (X := List (Int)) m_slices_Repeat_int_int_L1 (((Nat.min a_x.length ((List.replicate ((w64 x3.2)).toNat (0 : Int)).length - 0)) : Int), (cpL (List.replicate ((w64 x3.2)).toNat (0 : Int)) 0 (Nat.min a_x.length ((List.replicate ((w64 x3.2)).toNat (0 : Int)).length - 0)) (fun i => a_x.getD i (0 : Int))))).bind (fun x12 => ((some x12))))))))))))
theorem ok_slices_Repeat_int_int (a_x : List (Int)) (a_count : Int) (r : List (Int)) (h : m_slices_Repeat_int_int a_x a_count = some r) : Spec Try.prog 31 [(AV.list 1 eI64 (0 : Int) a_x .none), (.int .i64 a_count)] [] (.vsl 20000 r.length) [(20000, .arr 1 3 r.length (fun i => eI64 (r.getD i (0 : Int))))] := by
  refine spec_of_awp (fn := Try.f31) Try.func31 rfl rfl (by kernel_rfl) (fun Γ hn hΓ => ?_)
  have hn : Γ.n = 48 := hn
  unfold m_slices_Repeat_int_int at h
  refine rgs [] [(4, (AV.list 1 eI64 (0 : Int) ([] : List Int) .exact))] (⟨[(0, (Q139 a_x)), (1, (.int .i64 a_count))], [], []⟩ : St) [(AVle (.slice 0 0 (fun _ => []) .exact) (AV.list 1 eI64 (0 : Int) ([] : List Int) .exact))] hn mix (no_hand hΓ) (by kernel_rfl) ⟨av_nil, trivial⟩ ?_
  refine awp_seq ?_
  obtain ⟨x1, hx1, h⟩ := bind_some h
  refine awp_join (fun (_ : Unit) (e : Exit) (st : St) => e = .normal ∧ Le Γ st (⟨[(0, (Q139 a_x)), (1, (.int .i64 a_count))], [], []⟩ : St)) hx1 ?_ ?_
  · clear h hx1
    intro y h
    refine rgs0 (⟨[(0, (Q139 a_x)), (1, (.int .i64 a_count)), (10, (.bool (decide ((a_count : Int) < (0 : Int)))))], [], []⟩ : St) hn mix (no_hand hΓ) (by kernel_rfl) ?_
    refine awp_cond (decide ((a_count : Int) < (0 : Int))) (by kernel_rfl) (fun hb => ?_) (fun hb => ?_)
    · replace h := cond_t hb h
      clear hb
      cases h
    · replace h := cond_f hb h
      clear hb
      refine awp_skip ?_
      obtain rfl := Option.some.inj h
      exact ⟨rfl, le_restrict_eq [0, 1] [] (by kernel_rfl) (no_hand hΓ)⟩
  · clear hx1
    rintro e st' ⟨rfl, hl2⟩
    refine then_normal ?_
    refine awp_le hl2 ?_
    obtain ⟨x3, hx3, h⟩ := bind_some h
    refine rgs [⟨[], [], (.tuple [(.int .u64 x3.1), (.int .u64 x3.2)]), [], []⟩] [] (⟨[(0, (Q139 a_x)), (5, (.int .u64 x3.1)), (6, (.int .u64 x3.2))], [], []⟩ : St) [(Spec Try.prog 38 [(.int .u64 (wu64 (a_x.length : Int))), (.int .u64 (wu64 a_count))] [] (.tuple [(.int .u64 x3.1), (.int .u64 x3.2)]) [])] hn mix (no_hand hΓ) (by kernel_rfl) ⟨(ok_bits_Mul (wu64 (a_x.length : Int)) (wu64 a_count) x3 hx3), trivial⟩ ?_
    refine awp_seq ?_
    obtain ⟨x4, hx4, h⟩ := bind_some h
    refine awp_join (fun (_ : Unit) (e : Exit) (st : St) => e = .normal ∧ Le Γ st (⟨[(0, (Q139 a_x)), (6, (.int .u64 x3.2))], [], []⟩ : St)) hx4 ?_ ?_
    · clear h hx4
      intro y h
      refine rgs [] [] (⟨[(0, (Q139 a_x)), (6, (.int .u64 x3.2)), (26, (.bool (bif (Q140 x3) then true else (decide (((9223372036854775807 : Int) : Int) < x3.2)))))], [], []⟩ : St) [(((Q140 x3) == false) = true → ((Q140 x3) == false) = true), ((Q140 x3) = false → ((Q140 x3) == false) = true)] hn mix (no_hand hΓ) (by kernel_rfl) ⟨(fun hg => hg), gF, trivial⟩ ?_
      refine awp_cond (bif (Q140 x3) then true else (decide (((9223372036854775807 : Int) : Int) < x3.2))) (by kernel_rfl) (fun hb => ?_) (fun hb => ?_)
      · replace h := cond_t hb h
        clear hb
        cases h
      · replace h := cond_f hb h
        clear hb
        refine awp_skip ?_
        obtain rfl := Option.some.inj h
        exact ⟨rfl, le_restrict_eq [0, 6] [] (by kernel_rfl) (no_hand hΓ)⟩
    · clear hx4
      rintro e st' ⟨rfl, hl5⟩
      refine then_normal ?_
      refine awp_le hl5 ?_
      obtain ⟨hc6, h⟩ := chk_some h
      refine rgs [] [] (⟨[(0, (Q139 a_x)), (7, (.vsl 30 ((w64 x3.2)).toNat))], [(30, .arr 1 3 (((w64 x3.2)).toNat) (fun i_ => AV.eraseAll (fun n_ => memB n_ [30]) ((fun _ => [(.int .i64 (0 : Int))]) i_)))], []⟩ : St) [(0 ≤ (w64 x3.2) ∧ (w64 x3.2) ≤ (w64 x3.2) ∧ (w64 x3.2) ≤ (room : Int))] hn mix (no_hand hΓ) (by kernel_rfl) ⟨hc6, trivial⟩ ?_
      refine awp_le (Le.trans (le_of (st' := (⟨[(0, (Q139 a_x)), (7, (.vsl 30 ((w64 x3.2)).toNat))], [(30, .arr 1 3 (((w64 x3.2)).toNat) (fun i => eI64 ((Q137 x3).getD i (0 : Int))))], []⟩ : St)) (TmpsLe.refl _) (.arr (fun k hk => make_le (e := eI64) (d := (0 : Int)) (.cons (AVle.refl _) .nil) _ k (repl_lt hk)) .nil)) (le_eq (congrArg (fun k_ : Nat => (⟨[(0, (Q139 a_x)), (7, (.vsl 30 k_))], [(30, .arr 1 3 k_ (fun i => eI64 ((Q137 x3).getD i (0 : Int))))], []⟩ : St)) (show ((w64 x3.2)).toNat = (Q137 x3).length from (List.length_replicate ..).symm)))) ?_
      refine rgs [] [] (⟨[(7, (.vsl 30 (Q137 x3).length)), (8, (.int .i64 ((Q142 a_x x3) : Int)))], [(30, .arr 1 3 ((Q137 x3).length) (fun i_ => AV.eraseAll (fun n_ => memB n_ [30]) ((cpF (fun i => eI64 ((Q137 x3).getD i (0 : Int))) 0 (Q142 a_x x3) (fun i => eI64 (a_x.getD i (0 : Int)))) i_)))], []⟩ : St) [((Q137 x3).length = (Q137 x3).length)] hn mix (no_hand hΓ) (by kernel_rfl) ⟨rfl, trivial⟩ ?_
      refine awp_le (Le.trans (le_of (st' := (⟨[(7, (.vsl 30 (Q137 x3).length)), (8, (.int .i64 ((Q142 a_x x3) : Int)))], [(30, .arr 1 3 ((Q137 x3).length) (fun i => eI64 ((Q144 x3 a_x).getD i (0 : Int))))], []⟩ : St)) (TmpsLe.refl _) (.arr (leL_of_eq (cpL_length ..) (fun k_ hk_ => (congrArg (AV.eraseAll (fun n_ => memB n_ [30])) ((cpF_cpL (e := eI64) (d := (0 : Int)) (l := (Q137 x3)) (s := (fun i => a_x.getD i (0 : Int))) (fun _ _ => rfl) (fun _ _ => rfl)) k_ hk_)).trans rfl)) .nil)) (le_eq (congrArg (fun k_ : Nat => (⟨[(7, (.vsl 30 k_)), (8, (.int .i64 ((Q142 a_x x3) : Int)))], [(30, .arr 1 3 k_ (fun i => eI64 ((Q144 x3 a_x).getD i (0 : Int))))], []⟩ : St)) (show (Q137 x3).length = (Q144 x3 a_x).length from (cpL_length ..))))) ?_
      refine awp_seq ?_
      refine awp_block ?_
      refine awp_le (st' := (fun ((i7, l8) : (Int × List (Int))) => (Q141 l8 i7)) (((Q142 a_x x3) : Int), (Q144 x3 a_x))) (Le.refl _ _) ?_
      obtain ⟨x12, hx12, h⟩ := bind_some h
      refine awp_loop (fun ((i7, l8) : (Int × List (Int))) => (Q141 l8 i7)) _ (fun (l9 : List (Int)) (e : Exit) (st : St) => e = (.exit 0) ∧ Le Γ st (⟨[(7, (.vsl 30 l9.length))], [(30, .arr 1 3 l9.length (fun i => eI64 (l9.getD i (0 : Int))))], []⟩ : St)) ?_ hx12 ?_
      · rintro ⟨i7, l8⟩ y h
        unfold m_slices_Repeat_int_int_L1 at h
        refine awp_seq ?_
        refine rgs0 (⟨[(7, (.vsl 30 l8.length)), (8, (.int .i64 i7)), (37, (.bool (decide ((i7 : Int) < (l8.length : Int)))))], [(30, .arr 1 3 l8.length (fun i => eI64 (l8.getD i (0 : Int))))], []⟩ : St) hn mix (no_hand hΓ) (by kernel_rfl) ?_
        refine awp_cond (decide ((i7 : Int) < (l8.length : Int))) (by kernel_rfl) (fun hb => ?_) (fun hb => ?_)
        · replace h := cond_t hb h
          clear hb
          refine awp_skip ?_
          refine then_normal ?_
          refine awp_block ?_
          obtain ⟨hc10, h⟩ := chk_some h
          obtain ⟨hc11, h⟩ := chk_some h
          refine rg [] [] (⟨[(7, (.vsl 30 l8.length)), (8, (.int .i64 (w64 (i7 + ((Q138 i7 l8) : Int)))))], [(30, .arr 1 3 l8.length (fun i_ => AV.eraseAll (fun n_ => memB n_ [30]) ((cpF (fun i => eI64 (l8.getD i (0 : Int))) (0 + (i7).toNat) (Q138 i7 l8) (fun i => (fun i => eI64 (l8.getD i (0 : Int))) (0 + i))) i_)))], []⟩ : St) [(0 ≤ i7 ∧ 0 + (i7).toNat ≤ l8.length), (0 ≤ i7 ∧ 0 + (i7).toNat ≤ l8.length), (l8.length = l8.length), (l8.length = l8.length)] hn mix (no_hand hΓ) (by kernel_rfl) ⟨hc10, hc11, rfl, rfl, trivial⟩ ?_
          refine block_normal ?_
          obtain rfl := Option.some.inj h
          exact ⟨rfl, Le.trans (Le.trans (le_of (st' := (⟨[(7, (.vsl 30 l8.length)), (8, (.int .i64 (w64 (i7 + ((Q138 i7 l8) : Int)))))], [(30, .arr 1 3 l8.length (fun i => eI64 ((Q143 l8 i7).getD i (0 : Int))))], []⟩ : St)) (TmpsLe.refl _) (.arr (leL_of_eq (cpL_length ..) (fun k_ hk_ => (congrArg (AV.eraseAll (fun n_ => memB n_ [30])) ((cpF_cpL (e := eI64) (d := (0 : Int)) (l := l8) (s := (fun i => l8.getD (0 + i) (0 : Int))) (fun _ _ => rfl) (fun _ _ => rfl)) k_ hk_)).trans rfl)) .nil)) (le_eq (congrArg (fun k_ : Nat => (⟨[(7, (.vsl 30 k_)), (8, (.int .i64 (w64 (i7 + ((Q138 i7 l8) : Int)))))], [(30, .arr 1 3 k_ (fun i => eI64 ((Q143 l8 i7).getD i (0 : Int))))], []⟩ : St)) (show l8.length = (Q143 l8 i7).length from (cpL_length ..))))) (Le.refl _ _)⟩
        · replace h := cond_f hb h
          clear hb
          refine awp_exit ?_
          refine then_exit ?_
          obtain rfl := Option.some.inj h
          exact ⟨(by intro hh; cases hh), rfl, le_restrict_eq [7] [30] (by kernel_rfl) (no_hand hΓ)⟩
      · clear hx12
        rintro e st' ⟨rfl, hl13⟩
        refine block_here ?_
        refine then_normal ?_
        refine awp_le hl13 ?_
        refine rgs0 (⟨[(4, (.vsl 30 x12.length))], [(30, .arr 1 3 x12.length (fun i => eI64 (x12.getD i (0 : Int))))], []⟩ : St) hn mix (no_hand hΓ) (by kernel_rfl) ?_
        refine awp_ret ?_
        obtain rfl := Option.some.inj h
        exact ⟨.inl rfl, [(30, 20000)], by kernel_rfl⟩

noncomputable def m_dom_meet_v2_L1 (a_tree : List (Int)) : (Int × List (Bool)) → Option (LR (Int × List (Bool)) (List (Bool))) :=
  fun ((i2, l3) : (Int × List (Bool))) => (bif ((i2 : Int) != (-1 : Int)) then (chk (InB i2 l3.length) (chk (InB i2 a_tree.length) (some (.next ((a_tree.getD (i2).toNat (0 : Int)), (l3.set (i2).toNat true)))))) else (some (.done l3)))
noncomputable def m_dom_meet_v2_L2 (a_tree : List (Int)) (l4 : List (Bool)) : Int → Option (LR Int Int) :=
  fun (i9 : Int) => (chk (InB i9 l4.length) (bif (!(l4.getD (i9).toNat false)) then (chk (InB i9 a_tree.length) (some (.next (a_tree.getD (i9).toNat (0 : Int))))) else (some (.done i9))))
noncomputable def Q146 (a_tree : List (Int)) : AV := (.vsl 34000 a_tree.length)
noncomputable def Q145 (a_tree : List (Int)) := (fun i => eI64 (a_tree.getD i (0 : Int)))
noncomputable def Q147 (a_tree : List (Int)) := (List.replicate ((a_tree.length : Int)).toNat false)
noncomputable def Q149 (a_tree : List (Int)) (a_b : Int) (l3 : List (Bool)) (i2 : Int) : List (Nat × AV) := [(0, (Q146 a_tree)), (2, (.int .i64 a_b)), (7, (.vsl 11 l3.length)), (8, (.int .i64 i2))]
noncomputable def Q148 (x7 : List (Bool)) (a_tree : List (Int)) : List (Nat × Own) := [(11, .arr 1 4 x7.length (fun i => eB (x7.getD i false))), (34000, .arr 1 3 a_tree.length (Q145 a_tree))]
noncomputable def Q150 (l3 : List (Bool)) (a_tree : List (Int)) : List (Nat × Own) := [(11, .arr 1 4 l3.length (fun i => eB (l3.getD i false))), (34000, .arr 1 3 a_tree.length (Q145 a_tree))]
noncomputable def m_dom_meet_v2 (a_tree : List (Int)) (a_a : Int) (a_b : Int) : Option (Int × List (Int)) :=
  (chk (0 ≤ (a_tree.length : Int) ∧ (a_tree.length : Int) ≤ (a_tree.length : Int) ∧ (a_tree.length : Int) ≤ (room : Int)) ((loopO (S := (Int × List (Bool))) (X := List (Bool)) (m_dom_meet_v2_L1 a_tree) (a_a, (List.replicate ((a_tree.length : Int)).toNat false))).bind (fun x7 => (((loopO (S := Int) (X := Int) (m_dom_meet_v2_L2 a_tree x7) a_b).bind (fun x13 => ((some (x13, a_tree)))))))))
theorem ok_dom_meet_v2 (a_tree : List (Int)) (a_a : Int) (a_b : Int) (r : (Int × List (Int))) (h : m_dom_meet_v2 a_tree a_a a_b = some r) : Spec Try.prog 36 [(.vsl 34000 a_tree.length), (.int .i64 a_a), (.int .i64 a_b)] [(34000, .arr 1 3 a_tree.length (fun i => eI64 (a_tree.getD i (0 : Int))))] (.int .i64 r.1) [(34000, .arr 1 3 r.2.length (fun i => eI64 (r.2.getD i (0 : Int))))] := by
  refine spec_of_awp (fn := Try.f36) Try.func36 rfl rfl (by kernel_rfl) (fun Γ hn hΓ => ?_)
  have hn : Γ.n = 32 := hn
  unfold m_dom_meet_v2 at h
  refine rgs0 (⟨[(0, (Q146 a_tree)), (1, (.int .i64 a_a)), (2, (.int .i64 a_b))], [(34000, .arr 1 3 a_tree.length (Q145 a_tree))], []⟩ : St) hn mix (hand_in hΓ rfl) (by kernel_rfl) ?_
  obtain ⟨hc1, h⟩ := chk_some h
  refine rgs [] [] (⟨[(0, (Q146 a_tree)), (1, (.int .i64 a_a)), (2, (.int .i64 a_b)), (7, (.vsl 11 ((a_tree.length : Int)).toNat))], [(11, .arr 1 4 (((a_tree.length : Int)).toNat) (fun i_ => AV.eraseAll (fun n_ => memB n_ [11, 34000]) ((fun _ => [(.bool false)]) i_))), (34000, .arr 1 3 a_tree.length (Q145 a_tree))], []⟩ : St) [(0 ≤ (a_tree.length : Int) ∧ (a_tree.length : Int) ≤ (a_tree.length : Int) ∧ (a_tree.length : Int) ≤ (room : Int))] hn mix (hand_in hΓ rfl) (by kernel_rfl) ⟨hc1, trivial⟩ ?_
  refine awp_le (Le.trans (le_of (st' := (⟨[(0, (Q146 a_tree)), (1, (.int .i64 a_a)), (2, (.int .i64 a_b)), (7, (.vsl 11 ((a_tree.length : Int)).toNat))], [(11, .arr 1 4 (((a_tree.length : Int)).toNat) (fun i => eB ((Q147 a_tree).getD i false))), (34000, .arr 1 3 a_tree.length (Q145 a_tree))], []⟩ : St)) (TmpsLe.refl _) (.arr (fun k hk => make_le (e := eB) (d := false) (.cons (AVle.refl _) .nil) _ k (repl_lt hk)) (.same .nil))) (le_eq (congrArg (fun k_ : Nat => (⟨[(0, (Q146 a_tree)), (1, (.int .i64 a_a)), (2, (.int .i64 a_b)), (7, (.vsl 11 k_))], [(11, .arr 1 4 k_ (fun i => eB ((Q147 a_tree).getD i false))), (34000, .arr 1 3 a_tree.length (Q145 a_tree))], []⟩ : St)) (show ((a_tree.length : Int)).toNat = (Q147 a_tree).length from (List.length_replicate ..).symm)))) ?_
  refine awp_seq ?_
  refine rgs0 (⟨[(0, (Q146 a_tree)), (2, (.int .i64 a_b)), (7, (.vsl 11 (Q147 a_tree).length)), (8, (.int .i64 a_a))], [(11, .arr 1 4 ((Q147 a_tree).length) (fun i => eB ((Q147 a_tree).getD i false))), (34000, .arr 1 3 a_tree.length (Q145 a_tree))], []⟩ : St) hn mix (hand_in hΓ rfl) (by kernel_rfl) ?_
  refine awp_block ?_
  refine awp_le (st' := (fun ((i2, l3) : (Int × List (Bool))) => (⟨(Q149 a_tree a_b l3 i2), (Q150 l3 a_tree), []⟩ : St)) (a_a, (Q147 a_tree))) (Le.refl _ _) ?_
  obtain ⟨x7, hx7, h⟩ := bind_some h
  refine awp_loop (fun ((i2, l3) : (Int × List (Bool))) => (⟨(Q149 a_tree a_b l3 i2), (Q150 l3 a_tree), []⟩ : St)) _ (fun (l4 : List (Bool)) (e : Exit) (st : St) => e = (.exit 0) ∧ Le Γ st (⟨[(0, (Q146 a_tree)), (2, (.int .i64 a_b)), (7, (.vsl 11 l4.length))], [(11, .arr 1 4 l4.length (fun i => eB (l4.getD i false))), (34000, .arr 1 3 a_tree.length (Q145 a_tree))], []⟩ : St)) ?_ hx7 ?_
  · rintro ⟨i2, l3⟩ y h
    unfold m_dom_meet_v2_L1 at h
    refine awp_seq ?_
    refine rgs0 (⟨[(0, (Q146 a_tree)), (2, (.int .i64 a_b)), (7, (.vsl 11 l3.length)), (8, (.int .i64 i2)), (14, (.bool ((i2 : Int) != (-1 : Int))))], (Q150 l3 a_tree), []⟩ : St) hn mix (hand_in hΓ rfl) (by kernel_rfl) ?_
    refine awp_cond ((i2 : Int) != (-1 : Int)) (by kernel_rfl) (fun hb => ?_) (fun hb => ?_)
    · replace h := cond_t hb h
      clear hb
      refine awp_skip ?_
      refine then_normal ?_
      refine awp_seq ?_
      refine awp_block ?_
      obtain ⟨hc5, h⟩ := chk_some h
      refine rg [] [] (⟨(Q149 a_tree a_b l3 i2), [(11, .arr 1 4 l3.length (fun i_ => AV.eraseAll (fun n_ => memB n_ [11, 34000]) ((putF (fun i => eB (l3.getD i false)) (i2).toNat 0 [(.bool true)]) i_))), (34000, .arr 1 3 a_tree.length (Q145 a_tree))], []⟩ : St) [(InB i2 l3.length), (l3.length = l3.length)] hn mix (hand_in hΓ rfl) (by kernel_rfl) ⟨hc5, rfl, trivial⟩ ?_
      refine block_normal ?_
      refine then_normal ?_
      refine awp_le (Le.trans (le_of (st' := (⟨(Q149 a_tree a_b l3 i2), [(11, .arr 1 4 l3.length (fun i => eB ((l3.set (i2).toNat true).getD i false))), (34000, .arr 1 3 a_tree.length (Q145 a_tree))], []⟩ : St)) (TmpsLe.refl _) (.arr (leL_of_eq (List.length_set ..).symm (fun k_ hk_ => (congrArg (AV.eraseAll (fun n_ => memB n_ [11, 34000])) ((putF_set (fun _ _ => rfl) (inB_lt0 hc5) rfl) k_ hk_)).trans rfl)) (.same .nil))) (le_eq (congrArg (fun k_ : Nat => (⟨[(0, (Q146 a_tree)), (2, (.int .i64 a_b)), (7, (.vsl 11 k_)), (8, (.int .i64 i2))], [(11, .arr 1 4 k_ (fun i => eB ((l3.set (i2).toNat true).getD i false))), (34000, .arr 1 3 a_tree.length (Q145 a_tree))], []⟩ : St)) (show l3.length = (l3.set (i2).toNat true).length from (List.length_set ..).symm)))) ?_
      obtain ⟨hc6, h⟩ := chk_some h
      refine rg [] [] (⟨[(0, (Q146 a_tree)), (2, (.int .i64 a_b)), (7, (.vsl 11 (l3.set (i2).toNat true).length)), (8, (.int .i64 (a_tree.getD (i2).toNat (0 : Int))))], [(11, .arr 1 4 ((l3.set (i2).toNat true).length) (fun i => eB ((l3.set (i2).toNat true).getD i false))), (34000, .arr 1 3 a_tree.length (Q145 a_tree))], []⟩ : St) [(InB i2 a_tree.length), (a_tree.length = a_tree.length)] hn mix (hand_in hΓ rfl) (by kernel_rfl) ⟨hc6, rfl, trivial⟩ ?_
      obtain rfl := Option.some.inj h
      exact ⟨rfl, Le.refl _ _⟩
    · replace h := cond_f hb h
      clear hb
      refine awp_exit ?_
      refine then_exit ?_
      obtain rfl := Option.some.inj h
      exact ⟨(by intro hh; cases hh), rfl, le_restrict_eq [0, 2, 7] [11, 34000] (by kernel_rfl) (hand_in hΓ rfl)⟩
  · clear hx7
    rintro e st' ⟨rfl, hl8⟩
    refine block_here ?_
    refine then_normal ?_
    refine awp_le hl8 ?_
    refine awp_seq ?_
    refine awp_block ?_
    refine awp_le (st' := (fun (i9 : Int) => (⟨[(0, (Q146 a_tree)), (2, (.int .i64 i9)), (7, (.vsl 11 x7.length))], (Q148 x7 a_tree), []⟩ : St)) a_b) (Le.refl _ _) ?_
    obtain ⟨x13, hx13, h⟩ := bind_some h
    refine awp_loop (fun (i9 : Int) => (⟨[(0, (Q146 a_tree)), (2, (.int .i64 i9)), (7, (.vsl 11 x7.length))], (Q148 x7 a_tree), []⟩ : St)) _ (fun (i10 : Int) (e : Exit) (st : St) => e = (.exit 2) ∧ Le Γ st (⟨[(2, (.int .i64 i10))], [(34000, .arr 1 3 a_tree.length (Q145 a_tree))], []⟩ : St)) ?_ hx13 ?_
    · intro i9 y h
      unfold m_dom_meet_v2_L2 at h
      refine awp_seq ?_
      obtain ⟨hc11, h⟩ := chk_some h
      refine rgs [] [] (⟨[(0, (Q146 a_tree)), (2, (.int .i64 i9)), (7, (.vsl 11 x7.length)), (26, (.bool (!(x7.getD (i9).toNat false))))], (Q148 x7 a_tree), []⟩ : St) [(InB i9 x7.length), (x7.length = x7.length)] hn mix (hand_in hΓ rfl) (by kernel_rfl) ⟨hc11, rfl, trivial⟩ ?_
      refine awp_cond (!(x7.getD (i9).toNat false)) (by kernel_rfl) (fun hb => ?_) (fun hb => ?_)
      · replace h := cond_t hb h
        clear hb
        refine awp_skip ?_
        refine then_normal ?_
        refine awp_block ?_
        obtain ⟨hc12, h⟩ := chk_some h
        refine rg [] [] (⟨[(0, (Q146 a_tree)), (2, (.int .i64 (a_tree.getD (i9).toNat (0 : Int)))), (7, (.vsl 11 x7.length))], (Q148 x7 a_tree), []⟩ : St) [(InB i9 a_tree.length), (a_tree.length = a_tree.length)] hn mix (hand_in hΓ rfl) (by kernel_rfl) ⟨hc12, rfl, trivial⟩ ?_
        refine block_normal ?_
        obtain rfl := Option.some.inj h
        exact ⟨rfl, Le.refl _ _⟩
      · replace h := cond_f hb h
        clear hb
        refine awp_exit ?_
        refine then_exit ?_
        obtain rfl := Option.some.inj h
        exact ⟨(by intro hh; cases hh), rfl, le_restrict_eq [2] [34000] (by kernel_rfl) (hand_in hΓ rfl)⟩
    · clear hx13
      rintro e st' ⟨rfl, hl14⟩
      refine block_here ?_
      refine then_normal ?_
      refine awp_le hl14 ?_
      refine rgs0 (⟨[(6, (.int .i64 x13))], [(34000, .arr 1 3 a_tree.length (Q145 a_tree))], []⟩ : St) hn mix (hand_in hΓ rfl) (by kernel_rfl) ?_
      refine awp_ret ?_
      obtain rfl := Option.some.inj h
      exact ⟨.inl rfl, [(34000, 34000)], by kernel_rfl⟩

noncomputable def m_dom_meetAll_v2_L1 (a_list : List (Int)) : (Int × Int × List (Int)) → Option (LR (Int × Int × List (Int)) (Int × List (Int))) :=
  fun ((i1, i2, l3) : (Int × Int × List (Int))) => (bif (decide ((i2 : Int) < (a_list.length : Int))) then (Option.bind (α := (Int × List (Int))) (chk (InB i2 a_list.length) (chk (InB (a_list.getD (i2).toNat (0 : Int)) l3.length) (bif (((l3.getD ((a_list.getD (i2).toNat (0 : Int))).toNat (0 : Int)) : Int) == (-2 : Int)) then (some ((i1, l3))) else (bif ((i1 : Int) == (-2 : Int)) then (some (((a_list.getD (i2).toNat (0 : Int)), l3))) else ((m_dom_meet_v2 l3 i1 (a_list.getD (i2).toNat (0 : Int))).bind fun x10 => (chk (l3.length = x10.2.length) (some ((x10.1, x10.2))))))))) (fun x12 => (match x12 with | (i6, l7) => (some (.next (i6, (w64 (i2 + (1 : Int))), l7)))))) else (some (.done (i1, l3))))
noncomputable def Q157 (l3 : List (Int)) : AV := (.vsl 34000 l3.length)
noncomputable def Q153 (a_list : List (Int)) : AV := (.int .i64 (a_list.length : Int))
noncomputable def Q154 (a_list : List (Int)) (i2 : Int) := (a_list.getD (i2).toNat (0 : Int))
noncomputable def Q152 (a_list : List (Int)) : AV := (AV.list 1 eI64 (0 : Int) a_list .none)
noncomputable def Q151 (l3 : List (Int)) : List (Nat × Own) := [(34000, .arr 1 3 l3.length (fun i => eI64 (l3.getD i (0 : Int))))]
noncomputable def Q155 (x10 : (Int × List (Int))) : List (Nat × Own) := [(34000, .arr 1 3 x10.2.length (fun i => eI64 (x10.2.getD i (0 : Int))))]
noncomputable def Q156 (a_tree : List (Int)) : List (Nat × Own) := [(34000, .arr 1 3 a_tree.length (fun i => eI64 (a_tree.getD i (0 : Int))))]
noncomputable def m_dom_meetAll_v2 (a_tree : List (Int)) (a_list : List (Int)) : Option (Int × List (Int)) :=
  ((loopO (S := (Int × Int × List (Int))) (X := (Int × List (Int))) (m_dom_meetAll_v2_L1 a_list) ((-2 : Int), (0 : Int), a_tree)).bind (fun x14 => (match x14 with | (i4, l5) => (some (i4, l5)))))
theorem ok_dom_meetAll_v2 (a_tree : List (Int)) (a_list : List (Int)) (r : (Int × List (Int))) (h : m_dom_meetAll_v2 a_tree a_list = some r) : Spec Try.prog 32 [(.vsl 34000 a_tree.length), (AV.list 1 eI64 (0 : Int) a_list .none)] [(34000, .arr 1 3 a_tree.length (fun i => eI64 (a_tree.getD i (0 : Int))))] (.int .i64 r.1) [(34000, .arr 1 3 r.2.length (fun i => eI64 (r.2.getD i (0 : Int))))] := by
  refine spec_of_awp (fn := Try.f32) Try.func32 rfl rfl (by kernel_rfl) (fun Γ hn hΓ => ?_)
  have hn : Γ.n = 30 := hn
  unfold m_dom_meetAll_v2 at h
  refine rgs0 (⟨[(0, (.vsl 34000 a_tree.length)), (1, (Q152 a_list))], (Q156 a_tree), []⟩ : St) hn mix (hand_in hΓ rfl) (by kernel_rfl) ?_
  refine rgs0 (⟨[(0, (.vsl 34000 a_tree.length)), (1, (Q152 a_list)), (5, (.int .i64 (-2 : Int)))], (Q156 a_tree), []⟩ : St) hn mix (hand_in hΓ rfl) (by kernel_rfl) ?_
  refine awp_seq ?_
  refine rgs0 (⟨[(0, (.vsl 34000 a_tree.length)), (5, (.int .i64 (-2 : Int))), (8, (Q152 a_list)), (9, (Q153 a_list)), (10, (.int .i64 (0 : Int)))], (Q156 a_tree), []⟩ : St) hn mix (hand_in hΓ rfl) (by kernel_rfl) ?_
  refine awp_block ?_
  refine awp_le (st' := (fun ((i1, i2, l3) : (Int × Int × List (Int))) => (⟨[(0, (Q157 l3)), (5, (.int .i64 i1)), (8, (Q152 a_list)), (9, (Q153 a_list)), (10, (.int .i64 i2))], (Q151 l3), []⟩ : St)) ((-2 : Int), (0 : Int), a_tree)) (Le.refl _ _) ?_
  obtain ⟨x14, hx14, h⟩ := bind_some h
  refine awp_loop (fun ((i1, i2, l3) : (Int × Int × List (Int))) => (⟨[(0, (Q157 l3)), (5, (.int .i64 i1)), (8, (Q152 a_list)), (9, (Q153 a_list)), (10, (.int .i64 i2))], (Q151 l3), []⟩ : St)) _ (fun ((i4, l5) : (Int × List (Int))) (e : Exit) (st : St) => e = (.exit 0) ∧ Le Γ st (⟨[(5, (.int .i64 i4))], [(34000, .arr 1 3 l5.length (fun i => eI64 (l5.getD i (0 : Int))))], []⟩ : St)) ?_ hx14 ?_
  · rintro ⟨i1, i2, l3⟩ y h
    unfold m_dom_meetAll_v2_L1 at h
    refine rgs0 (⟨[(0, (Q157 l3)), (5, (.int .i64 i1)), (8, (Q152 a_list)), (9, (Q153 a_list)), (10, (.int .i64 i2)), (11, (.bool (decide ((i2 : Int) < (a_list.length : Int)))))], (Q151 l3), []⟩ : St) hn mix (hand_in hΓ rfl) (by kernel_rfl) ?_
    refine awp_seq ?_
    refine awp_cond (decide ((i2 : Int) < (a_list.length : Int))) (by kernel_rfl) (fun hb => ?_) (fun hb => ?_)
    · replace h := cond_t hb h
      clear hb
      refine awp_skip ?_
      refine then_normal ?_
      refine awp_seq ?_
      obtain ⟨x12, hx12, h⟩ := bind_some h
      refine awp_join (fun ((i6, l7) : (Int × List (Int))) (e : Exit) (st : St) => e = .normal ∧ Le Γ st (⟨[(0, (.vsl 34000 l7.length)), (5, (.int .i64 i6)), (8, (Q152 a_list)), (9, (Q153 a_list)), (10, (.int .i64 i2))], [(34000, .arr 1 3 l7.length (fun i => eI64 (l7.getD i (0 : Int))))], []⟩ : St)) hx12 ?_ ?_
      · clear h hx12
        intro y h
        refine awp_block ?_
        obtain ⟨hc8, h⟩ := chk_some h
        refine rgs [] [] (⟨[(0, (Q157 l3)), (5, (.int .i64 i1)), (7, (.int .i64 (Q154 a_list i2))), (8, (Q152 a_list)), (9, (Q153 a_list)), (10, (.int .i64 i2))], (Q151 l3), []⟩ : St) [(InB i2 a_list.length)] hn mix (hand_in hΓ rfl) (by kernel_rfl) ⟨hc8, trivial⟩ ?_
        refine awp_block ?_
        obtain ⟨hc9, h⟩ := chk_some h
        refine rgs [] [] (⟨[(0, (Q157 l3)), (5, (.int .i64 i1)), (7, (.int .i64 (Q154 a_list i2))), (8, (Q152 a_list)), (9, (Q153 a_list)), (10, (.int .i64 i2)), (18, (.bool (((l3.getD ((Q154 a_list i2)).toNat (0 : Int)) : Int) == (-2 : Int))))], (Q151 l3), []⟩ : St) [(InB (Q154 a_list i2) l3.length), (l3.length = l3.length)] hn mix (hand_in hΓ rfl) (by kernel_rfl) ⟨hc9, rfl, trivial⟩ ?_
        refine awp_cond (((l3.getD ((Q154 a_list i2)).toNat (0 : Int)) : Int) == (-2 : Int)) (by kernel_rfl) (fun hb => ?_) (fun hb => ?_)
        · replace h := cond_t hb h
          clear hb
          refine awp_skip ?_
          refine block_normal ?_
          refine block_normal ?_
          obtain rfl := Option.some.inj h
          exact ⟨rfl, le_restrict_eq [0, 5, 8, 9, 10] [34000] (by kernel_rfl) (hand_in hΓ rfl)⟩
        · replace h := cond_f hb h
          clear hb
          refine rgs0 (⟨[(0, (Q157 l3)), (5, (.int .i64 i1)), (7, (.int .i64 (Q154 a_list i2))), (8, (Q152 a_list)), (9, (Q153 a_list)), (10, (.int .i64 i2)), (24, (.bool ((i1 : Int) == (-2 : Int))))], (Q151 l3), []⟩ : St) hn mix (hand_in hΓ rfl) (by kernel_rfl) ?_
          refine awp_cond ((i1 : Int) == (-2 : Int)) (by kernel_rfl) (fun hb => ?_) (fun hb => ?_)
          · replace h := cond_t hb h
            clear hb
            refine rg0 (⟨[(0, (Q157 l3)), (5, (.int .i64 (Q154 a_list i2))), (8, (Q152 a_list)), (9, (Q153 a_list)), (10, (.int .i64 i2))], (Q151 l3), []⟩ : St) hn mix (hand_in hΓ rfl) (by kernel_rfl) ?_
            refine block_normal ?_
            refine block_normal ?_
            obtain rfl := Option.some.inj h
            exact ⟨rfl, Le.refl _ _⟩
          · replace h := cond_f hb h
            clear hb
            obtain ⟨x10, hx10, h⟩ := bind_some h
            obtain ⟨hc11, h⟩ := chk_some h
            refine rg [⟨[(34000, 34000)], [], (.int .i64 x10.1), (Q155 x10), []⟩] [] (⟨[(0, (Q157 l3)), (5, (.int .i64 x10.1)), (8, (Q152 a_list)), (9, (Q153 a_list)), (10, (.int .i64 i2))], (Q155 x10), []⟩ : St) [(Spec Try.prog 36 [(Q157 l3), (.int .i64 i1), (.int .i64 (Q154 a_list i2))] (Q151 l3) (.int .i64 x10.1) (Q155 x10))] hn mix (hand_in hΓ rfl) (by kernel_rfl) ⟨(ok_dom_meet_v2 l3 i1 (Q154 a_list i2) x10 hx10), trivial⟩ ?_
            refine block_normal ?_
            refine block_normal ?_
            obtain rfl := Option.some.inj h
            exact ⟨rfl, Le.trans (le_eq (congrArg (fun k_ : Nat => (⟨[(0, (.vsl 34000 k_)), (5, (.int .i64 x10.1)), (8, (Q152 a_list)), (9, (Q153 a_list)), (10, (.int .i64 i2))], (Q155 x10), []⟩ : St)) (show l3.length = x10.2.length from hc11))) (Le.refl _ _)⟩
      · clear hx12
        rcases x12 with ⟨i6, l7⟩
        rintro e st' ⟨rfl, hl13⟩
        refine then_normal ?_
        refine awp_le hl13 ?_
        refine rg0 (⟨[(0, (.vsl 34000 l7.length)), (5, (.int .i64 i6)), (8, (Q152 a_list)), (9, (Q153 a_list)), (10, (.int .i64 (w64 (i2 + (1 : Int)))))], [(34000, .arr 1 3 l7.length (fun i => eI64 (l7.getD i (0 : Int))))], []⟩ : St) hn mix (hand_in hΓ rfl) (by kernel_rfl) ?_
        obtain rfl := Option.some.inj h
        exact ⟨rfl, Le.refl _ _⟩
    · replace h := cond_f hb h
      clear hb
      refine awp_exit ?_
      refine then_exit ?_
      obtain rfl := Option.some.inj h
      exact ⟨(by intro hh; cases hh), rfl, le_restrict_eq [5] [34000] (by kernel_rfl) (hand_in hΓ rfl)⟩
  · clear hx14
    rcases x14 with ⟨i4, l5⟩
    rintro e st' ⟨rfl, hl15⟩
    refine block_here ?_
    refine then_normal ?_
    refine awp_le hl15 ?_
    refine rgs0 (⟨[(4, (.int .i64 i4))], [(34000, .arr 1 3 l5.length (fun i => eI64 (l5.getD i (0 : Int))))], []⟩ : St) hn mix (hand_in hΓ rfl) (by kernel_rfl) ?_
    refine awp_ret ?_
    obtain rfl := Option.some.inj h
    exact ⟨.inl rfl, [(34000, 34000)], by kernel_rfl⟩
end Go.Proofs.Ytlkcijaejngomaa
