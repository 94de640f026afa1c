/-
  The machine, the program's functions and the laws' arithmetic: part 5 of 6.
-/
import Derived.Test.YtlnggndmojdcaaaPk4
set_option linter.unusedVariables false
set_option linter.unusedSimpArgs false
namespace Go.Proofs.Ytlnggndmojdcaaa
open Go Go.RowKit
set_option linter.unusedVariables false
set_option maxRecDepth 100000
set_option maxHeartbeats 2000000
noncomputable def m_dom_Kids_L1 (a_tree : List (Int)) (a_a : Int) : (List (Int) × Int) → Option (LR (List (Int) × Int) (List (Int))) :=
  fun ((l2, i3) : (List (Int) × Int)) => (bif (decide ((i3 : Int) < (a_tree.length : Int))) then (Option.bind (α := List (Int)) (chk (InB i3 a_tree.length) (bif (((a_tree.getD (i3).toNat (0 : Int)) : Int) == a_a) then (chk (l2.length + ([i3] : List (Int)).length ≤ room) (some ((l2 ++ ([i3] : List (Int)))))) else (some (l2)))) (fun x8 => ((some (.next (x8, (w64 (i3 + (1 : Int))))))))) else (some (.done l2)))
noncomputable def Q166 (i3 : Int) := ([i3] : List (Int))
noncomputable def Q164 (a_tree : List (Int)) : AV := (.int .i64 (a_tree.length : Int))
noncomputable def Q162 (a_tree : List (Int)) : AV := (AV.list 1 eI64 (0 : Int) a_tree .none)
noncomputable def Q165 (l2 : List (Int)) : AV := (AV.list 1 eI64 (0 : Int) l2 (.own 5005))
noncomputable def Q163 : AV := (AV.list 1 eI64 (0 : Int) ([] : List Int) .exact)
noncomputable def Q167 := (⟨[(4, (AV.list 1 eI64 (0 : Int) ([] : List Int) (.own 6004)))], [(6004, .tok 1 3 (([] : List Int).length))], []⟩ : St)
noncomputable def m_dom_Kids (a_tree : List (Int)) (a_a : Int) : Option (List (Int)) :=
  ((m_dom_areIn a_tree a_a a_a).bind fun x1 => (bif (!x1) then (some ([] : List Int)) else ((loopO (S := (List (Int) × Int)) (X := List (Int)) (m_dom_Kids_L1 a_tree a_a) (([] : List Int), (0 : Int))).bind (fun x10 => ((some x10))))))
theorem ok_dom_Kids (a_tree : List (Int)) (a_a : Int) (r : List (Int)) (h : m_dom_Kids a_tree a_a = some r) : Spec Try.prog 18 [(AV.list 1 eI64 (0 : Int) a_tree .none), (.int .i64 a_a)] [] (AV.list 1 eI64 (0 : Int) r (.own 20000)) [(20000, .tok 1 3 r.length)] := by
  refine spec_of_awp (fn := Try.f18) Try.func18 rfl rfl (by kernel_rfl) (fun Γ hn hΓ => ?_)
  have hn : Γ.n = 29 := hn
  unfold m_dom_Kids at h
  refine rgs [] [(4, Q163)] (⟨[(0, (Q162 a_tree)), (1, (.int .i64 a_a))], [], []⟩ : St) [(AVle (.slice 0 0 (fun _ => []) .exact) Q163)] hn mix (no_hand hΓ) (by kernel_rfl) ⟨av_nil, trivial⟩ ?_
  refine awp_seq ?_
  obtain ⟨x1, hx1, h⟩ := bind_some h
  refine rgs [⟨[], [], (.bool x1), []⟩] [] (⟨[(0, (Q162 a_tree)), (1, (.int .i64 a_a)), (12, (.bool (!x1)))], [], []⟩ : St) [(Spec Try.prog 32 [(Q162 a_tree), (.int .i64 a_a), (.int .i64 a_a)] [] (.bool x1) [])] hn mix (no_hand hΓ) (by kernel_rfl) ⟨(ok_dom_areIn a_tree a_a a_a x1 hx1), trivial⟩ ?_
  refine awp_cond (!x1) (by kernel_rfl) (fun hb => ?_) (fun hb => ?_)
  · replace h := cond_t hb h
    clear hb
    refine rgs [] [(4, Q163)] (⟨[(4, Q163)], [], []⟩ : St) [(AVle (.slice 0 0 (fun _ => []) .exact) Q163)] hn mix (no_hand hΓ) (by kernel_rfl) ⟨av_nil, trivial⟩ ?_
    refine awp_le (st' := Q167) (Le.trans (le_restrict_eq (st' := (⟨[(4, Q163)], [], []⟩ : St)) [4] [] (by kernel_rfl) (no_hand hΓ)) (Le.trans (le_tag (t := 4) (nm := 6004) (sz' := 1) (fun i => eI64 (([] : List Int).getD i (0 : Int))) 3 rfl rfl (.inl ⟨rfl, rfl⟩) (fun h_ => absurd h_ (by decide))) (le_restrict_eq (st' := Q167) [4] [6004] (by kernel_rfl) (no_hand hΓ)))) ?_
    refine awp_ret ?_
    refine then_ret ?_
    obtain rfl := Option.some.inj h
    exact ⟨.inl rfl, [(6004, 20000)], by kernel_rfl⟩
  · replace h := cond_f hb h
    clear hb
    refine awp_skip ?_
    refine then_normal ?_
    refine rgs [] [(5, Q163)] (⟨[(0, (Q162 a_tree)), (1, (.int .i64 a_a)), (5, Q163)], [], []⟩ : St) [(AVle (.slice 0 0 (fun _ => []) .exact) Q163)] hn mix (no_hand hΓ) (by kernel_rfl) ⟨av_nil, trivial⟩ ?_
    refine awp_seq ?_
    refine rgs0 (⟨[(1, (.int .i64 a_a)), (5, Q163), (13, (Q162 a_tree)), (14, (Q164 a_tree)), (15, (.int .i64 (0 : Int)))], [], []⟩ : St) hn mix (no_hand hΓ) (by kernel_rfl) ?_
    refine awp_block ?_
    refine awp_le (st' := (fun ((l2, i3) : (List (Int) × Int)) => (⟨[(1, (.int .i64 a_a)), (5, (Q165 l2)), (13, (Q162 a_tree)), (14, (Q164 a_tree)), (15, (.int .i64 i3))], [(5005, .tok 1 3 l2.length)], []⟩ : St)) (([] : List Int), (0 : Int))) (Le.trans (le_restrict_eq (st' := (⟨[(1, (.int .i64 a_a)), (5, Q163), (13, (Q162 a_tree)), (14, (Q164 a_tree)), (15, (.int .i64 (0 : Int)))], [], []⟩ : St)) [1, 5, 13, 14, 15] [] (by kernel_rfl) (no_hand hΓ)) (Le.trans (le_tag (t := 5) (nm := 5005) (sz' := 1) (fun i => eI64 (([] : List Int).getD i (0 : Int))) 3 rfl rfl (.inl ⟨rfl, rfl⟩) (fun h_ => absurd h_ (by decide))) (le_restrict_eq (st' := (⟨[(1, (.int .i64 a_a)), (5, (AV.list 1 eI64 (0 : Int) ([] : List Int) (.own 5005))), (13, (Q162 a_tree)), (14, (Q164 a_tree)), (15, (.int .i64 (0 : Int)))], [(5005, .tok 1 3 (([] : List Int).length))], []⟩ : St)) [1, 5, 13, 14, 15] [5005] (by kernel_rfl) (no_hand hΓ)))) ?_
    obtain ⟨x10, hx10, h⟩ := bind_some h
    refine awp_loop (fun ((l2, i3) : (List (Int) × Int)) => (⟨[(1, (.int .i64 a_a)), (5, (Q165 l2)), (13, (Q162 a_tree)), (14, (Q164 a_tree)), (15, (.int .i64 i3))], [(5005, .tok 1 3 l2.length)], []⟩ : St)) _ (fun (l4 : List (Int)) (e : Exit) (st : St) => e = (.exit 0) ∧ Le Γ st (⟨[(5, (AV.list 1 eI64 (0 : Int) l4 (.own 5005)))], [(5005, .tok 1 3 l4.length)], []⟩ : St)) ?_ hx10 ?_
    · rintro ⟨l2, i3⟩ y h
      unfold m_dom_Kids_L1 at h
      refine rgs0 (⟨[(1, (.int .i64 a_a)), (5, (Q165 l2)), (13, (Q162 a_tree)), (14, (Q164 a_tree)), (15, (.int .i64 i3)), (16, (.bool (decide ((i3 : Int) < (a_tree.length : Int)))))], [(5005, .tok 1 3 l2.length)], []⟩ : St) hn mix (no_hand hΓ) (by kernel_rfl) ?_
      refine awp_seq ?_
      refine awp_cond (decide ((i3 : Int) < (a_tree.length : Int))) (by kernel_rfl) (fun hb => ?_) (fun hb => ?_)
      · replace h := cond_t hb h
        clear hb
        refine awp_skip ?_
        refine then_normal ?_
        refine awp_seq ?_
        obtain ⟨x8, hx8, h⟩ := bind_some h
        refine awp_join (fun (l5 : List (Int)) (e : Exit) (st : St) => e = .normal ∧ Le Γ st (⟨[(1, (.int .i64 a_a)), (5, (AV.list 1 eI64 (0 : Int) l5 (.own 5005))), (13, (Q162 a_tree)), (14, (Q164 a_tree)), (15, (.int .i64 i3))], [(5005, .tok 1 3 l5.length)], []⟩ : St)) hx8 ?_ ?_
        · clear h hx8
          intro y h
          refine awp_block ?_
          obtain ⟨hc6, h⟩ := chk_some h
          refine rgs [] [] (⟨[(1, (.int .i64 a_a)), (5, (Q165 l2)), (6, (.int .i64 i3)), (7, (.int .i64 (a_tree.getD (i3).toNat (0 : Int)))), (13, (Q162 a_tree)), (14, (Q164 a_tree)), (15, (.int .i64 i3))], [(5005, .tok 1 3 l2.length)], []⟩ : St) [(InB i3 a_tree.length)] hn mix (no_hand hΓ) (by kernel_rfl) ⟨hc6, trivial⟩ ?_
          refine rgs0 (⟨[(1, (.int .i64 a_a)), (5, (Q165 l2)), (6, (.int .i64 i3)), (13, (Q162 a_tree)), (14, (Q164 a_tree)), (15, (.int .i64 i3)), (22, (.bool (((a_tree.getD (i3).toNat (0 : Int)) : Int) == a_a)))], [(5005, .tok 1 3 l2.length)], []⟩ : St) hn mix (no_hand hΓ) (by kernel_rfl) ?_
          refine awp_cond (((a_tree.getD (i3).toNat (0 : Int)) : Int) == a_a) (by kernel_rfl) (fun hb => ?_) (fun hb => ?_)
          · replace h := cond_t hb h
            clear hb
            obtain ⟨hc7, h⟩ := chk_some h
            refine rg [] [(25, (AV.list 1 eI64 (0 : Int) (Q166 i3) .exact)), (26, (AV.list 1 eI64 (0 : Int) (l2 ++ (Q166 i3)) (.own 5005)))] (⟨[(1, (.int .i64 a_a)), (5, (AV.list 1 eI64 (0 : Int) (l2 ++ (Q166 i3)) (.own 5005))), (13, (Q162 a_tree)), (14, (Q164 a_tree)), (15, (.int .i64 i3))], [(5005, .tok 1 3 ((l2 ++ (Q166 i3)).length))], []⟩ : St) [(AVle (.slice 1 1 (fun i => ([[(.int .i64 i3)]] : List (List AV)).getD i []) .exact) (AV.list 1 eI64 (0 : Int) (Q166 i3) .exact)), (l2.length = l2.length), (l2.length + (Q166 i3).length ≤ room), (AVle (.slice 1 (l2.length + (Q166 i3).length) (appF l2.length (fun i => eI64 (l2.getD i (0 : Int))) (fun i => eI64 ((Q166 i3).getD i (0 : Int)))) (.own 5005)) (AV.list 1 eI64 (0 : Int) (l2 ++ (Q166 i3)) (.own 5005))), (l2.length + (Q166 i3).length = (l2 ++ (Q166 i3)).length)] hn mix (no_hand hΓ) (by kernel_rfl) ⟨(av_lit rfl (fun i hi => map_get (e := eI64) (d := (0 : Int)) (Q166 i3) i hi)), rfl, hc7, av_app, (len_app _ _), trivial⟩ ?_
            refine block_normal ?_
            obtain rfl := Option.some.inj h
            exact ⟨rfl, Le.refl _ _⟩
          · replace h := cond_f hb h
            clear hb
            refine awp_skip ?_
            refine block_normal ?_
            obtain rfl := Option.some.inj h
            exact ⟨rfl, le_restrict_eq [1, 5, 13, 14, 15] [5005] (by kernel_rfl) (no_hand hΓ)⟩
        · clear hx8
          rintro e st' ⟨rfl, hl9⟩
          refine then_normal ?_
          refine awp_le hl9 ?_
          refine rg0 (⟨[(1, (.int .i64 a_a)), (5, (AV.list 1 eI64 (0 : Int) x8 (.own 5005))), (13, (Q162 a_tree)), (14, (Q164 a_tree)), (15, (.int .i64 (w64 (i3 + (1 : Int)))))], [(5005, .tok 1 3 x8.length)], []⟩ : St) hn mix (no_hand hΓ) (by kernel_rfl) ?_
          obtain rfl := Option.some.inj h
          exact ⟨rfl, Le.refl _ _⟩
      · replace h := cond_f hb h
        clear hb
        refine awp_exit ?_
        refine then_exit ?_
        obtain rfl := Option.some.inj h
        exact ⟨(by intro hh; cases hh), rfl, le_restrict_eq [5] [5005] (by kernel_rfl) (no_hand hΓ)⟩
    · clear hx10
      rintro e st' ⟨rfl, hl11⟩
      refine block_here ?_
      refine then_normal ?_
      refine awp_le hl11 ?_
      refine rgs0 (⟨[(4, (AV.list 1 eI64 (0 : Int) x10 (.own 5005)))], [(5005, .tok 1 3 x10.length)], []⟩ : St) hn mix (no_hand hΓ) (by kernel_rfl) ?_
      refine awp_ret ?_
      obtain rfl := Option.some.inj h
      exact ⟨.inl rfl, [(5005, 20000)], by kernel_rfl⟩

def kc1_locksteplaw07_awake : List (List (Int)) := ([([(1 : Int), (2 : Int)] : List (Int)), ([(3 : Int)] : List (Int)), ([(3 : Int)] : List (Int)), ([] : List Int), ([(3 : Int)] : List (Int))] : List (List (Int)))
noncomputable def Q178 := ([(3 : Int)] : List (Int))
noncomputable def Q176 (x2 : List (Int)) : AV := (AV.list 1 eI64 (0 : Int) x2 .none)
noncomputable def Q174 (x1 : (TGraph × Int)) := (((x1.2 : Int) == (0 : Int)) == true)
noncomputable def Q173 (x7 : List (Int)) := (((x7.length : Int) : Int) == (3 : Int))
noncomputable def Q168 (x1 : (TGraph × Int)) (x3 : Bool) (x4 : Bool) (x5 : Bool) (x6 : Int) := (bif (bif (bif (bif ((x1.2 : Int) == (0 : Int)) then x3 else false) then x4 else false) then (!x5) else false) then ((x6 : Int) == (0 : Int)) else false)
noncomputable def Q177 (x1 : (TGraph × Int)) (x3 : Bool) (x4 : Bool) (x5 : Bool) (x6 : Int) (x7 : List (Int)) := (bif (Q168 x1 x3 x4 x5 x6) then (Q173 x7) else false)
noncomputable def Q175 (x1 : (TGraph × Int)) (x3 : Bool) := ((bif ((x1.2 : Int) == (0 : Int)) then x3 else false) == true)
noncomputable def Q172 := ([(-1 : Int), (0 : Int), (0 : Int), (0 : Int), (-2 : Int)] : List (Int))
noncomputable def Q170 (x1 : (TGraph × Int)) (x3 : Bool) (x4 : Bool) := ((bif (bif ((x1.2 : Int) == (0 : Int)) then x3 else false) then x4 else false) == true)
noncomputable def Q169 (x1 : (TGraph × Int)) (x3 : Bool) (x4 : Bool) (x5 : Bool) := ((bif (bif (bif ((x1.2 : Int) == (0 : Int)) then x3 else false) then x4 else false) then (!x5) else false) == true)
noncomputable def Q171 := (AVle (.slice 1 1 (fun i => ([[(.int .i64 (3 : Int))]] : List (List AV)).getD i []) .exact) (AV.list 1 eI64 (0 : Int) Q178 .exact))
noncomputable def m_locksteplaw07_awake  : Option Bool :=
  ((m_graph_Make kc1_locksteplaw07_awake).bind fun x1 => ((m_dom_Tree x1.1 (0 : Int)).bind fun x2 => ((bif (((x1.2 : Int) == (0 : Int)) == true) then m_lockstepref02_Ints x2 ([(-1 : Int), (0 : Int), (0 : Int), (0 : Int), (-2 : Int)] : List (Int)) else some false).bind fun x3 => ((bif ((bif ((x1.2 : Int) == (0 : Int)) then x3 else false) == true) then m_dom_Over x2 (0 : Int) (3 : Int) else some false).bind fun x4 => ((bif ((bif (bif ((x1.2 : Int) == (0 : Int)) then x3 else false) then x4 else false) == true) then m_dom_Over x2 (1 : Int) (3 : Int) else some false).bind fun x5 => ((bif ((bif (bif (bif ((x1.2 : Int) == (0 : Int)) then x3 else false) then x4 else false) then (!x5) else false) == true) then m_dom_Meet x2 (1 : Int) (2 : Int) else some (0 : Int)).bind fun x6 => ((bif ((bif (bif (bif (bif ((x1.2 : Int) == (0 : Int)) then x3 else false) then x4 else false) then (!x5) else false) then ((x6 : Int) == (0 : Int)) else false) == true) then m_dom_Kids x2 (0 : Int) else some []).bind fun x7 => ((bif ((bif (bif (bif (bif (bif ((x1.2 : Int) == (0 : Int)) then x3 else false) then x4 else false) then (!x5) else false) then ((x6 : Int) == (0 : Int)) else false) then (((x7.length : Int) : Int) == (3 : Int)) else false) == true) then m_dom_Meet x2 (1 : Int) (4 : Int) else some (0 : Int)).bind fun x8 => (some (bif (bif (bif (bif (bif (bif ((x1.2 : Int) == (0 : Int)) then x3 else false) then x4 else false) then (!x5) else false) then ((x6 : Int) == (0 : Int)) else false) then (((x7.length : Int) : Int) == (3 : Int)) else false) then ((x8 : Int) == (-2 : Int)) else false))))))))))
theorem ok_locksteplaw07_awake  (r : Bool) (h : m_locksteplaw07_awake = some r) : Spec Try.prog 9 [] [] (.bool r) [] := by
  refine spec_of_awp (fn := Try.f9) Try.func9 rfl rfl (by kernel_rfl) (fun Γ hn hΓ => ?_)
  have hn : Γ.n = 47 := hn
  unfold m_locksteplaw07_awake at h
  refine rgs0 (⟨[], [], []⟩ : St) hn mix (no_hand hΓ) (by kernel_rfl) ?_
  obtain ⟨x1, hx1, h⟩ := bind_some h
  refine rgs [⟨[], [], (.tuple [(.agg (eTGraph x1.1)), (.int .i64 x1.2)]), []⟩] [(5, (AV.list 1 eI64 (0 : Int) ([(1 : Int), (2 : Int)] : List (Int)) .exact)), (6, (AV.list 1 eI64 (0 : Int) Q178 .exact)), (7, (AV.list 1 eI64 (0 : Int) Q178 .exact)), (8, (AV.list 1 eI64 (0 : Int) Q178 .exact)), (9, (AV.list 1 eLI64 [] kc1_locksteplaw07_awake .exact))] (⟨[(1, (.ptr 1 0)), (2, (.int .i64 x1.2))], [(1, .row 26 [(AV.list 1 eLI64 [] x1.1.Succ .none), (AV.list 1 eLI64 [] x1.1.Pred .none)])], []⟩ : St) [(AVle (.slice 1 2 (fun i => ([[(.int .i64 (1 : Int))], [(.int .i64 (2 : Int))]] : List (List AV)).getD i []) .exact) (AV.list 1 eI64 (0 : Int) ([(1 : Int), (2 : Int)] : List (Int)) .exact)), Q171, Q171, Q171, (AVle (.slice 1 5 (fun i => ([[(AV.list 1 eI64 (0 : Int) ([(1 : Int), (2 : Int)] : List (Int)) .none)], [(AV.list 1 eI64 (0 : Int) Q178 .none)], [(AV.list 1 eI64 (0 : Int) Q178 .none)], [(.slice 0 0 (fun _ => []) .none)], [(AV.list 1 eI64 (0 : Int) Q178 .none)]] : List (List AV)).getD i []) .exact) (AV.list 1 eLI64 [] kc1_locksteplaw07_awake .exact)), (Spec Try.prog 11 [(AV.list 1 eLI64 [] kc1_locksteplaw07_awake .none)] [] (.tuple [(.agg (eTGraph x1.1)), (.int .i64 x1.2)]) [])] hn mix (no_hand hΓ) (by kernel_rfl) ⟨(av_lit rfl (fun i hi => map_get (e := eI64) (d := (0 : Int)) ([(1 : Int), (2 : Int)] : List (Int)) i hi)), (av_lit rfl (fun i hi => map_get (e := eI64) (d := (0 : Int)) Q178 i hi)), (av_lit rfl (fun i hi => map_get (e := eI64) (d := (0 : Int)) Q178 i hi)), (av_lit rfl (fun i hi => map_get (e := eI64) (d := (0 : Int)) Q178 i hi)), (av_litL (e := eLI64) (d := []) rfl (lit_cons (.cons (AVle.refl _) .nil) (lit_cons (.cons (AVle.refl _) .nil) (lit_cons (.cons (AVle.refl _) .nil) (lit_cons (.cons av_nil0 .nil) (lit_cons (.cons (AVle.refl _) .nil) (lit_nil rfl)))))) (fun _ => rfl)), (ok_graph_Make kc1_locksteplaw07_awake x1 hx1), trivial⟩ ?_
  obtain ⟨x2, hx2, h⟩ := bind_some h
  refine rgs [⟨[], [(20000, 14)], (AV.list 1 eI64 (0 : Int) x2 (.own 20000)), [(20000, .tok 1 3 x2.length)]⟩] [] (⟨[(2, (.int .i64 x1.2)), (3, (AV.list 1 eI64 (0 : Int) x2 (.own 14)))], [(14, .tok 1 3 x2.length)], []⟩ : St) [(Spec Try.prog 13 [(.agg (eTGraph x1.1)), (.int .i64 (0 : Int))] [] (AV.list 1 eI64 (0 : Int) x2 (.own 20000)) [(20000, .tok 1 3 x2.length)])] hn mix (no_hand hΓ) (by kernel_rfl) ⟨(ok_dom_Tree x1.1 (0 : Int) x2 hx2), trivial⟩ ?_
  obtain ⟨x3, hx3, h⟩ := bind_some h
  obtain ⟨x4, hx4, h⟩ := bind_some h
  obtain ⟨x5, hx5, h⟩ := bind_some h
  obtain ⟨x6, hx6, h⟩ := bind_some h
  obtain ⟨x7, hx7, h⟩ := bind_some h
  obtain ⟨x8, hx8, h⟩ := bind_some h
  refine rgs [⟨[], [], (.bool x3), []⟩, ⟨[], [], (.bool x4), []⟩, ⟨[], [], (.bool x5), []⟩, ⟨[], [], (.int .i64 x6), []⟩, ⟨[], [], (AV.list 1 eI64 (0 : Int) x7 .none), []⟩, ⟨[], [], (.int .i64 x8), []⟩] [(19, (AV.list 1 eI64 (0 : Int) Q172 .exact))] (⟨[(0, (.bool (bif (Q177 x1 x3 x4 x5 x6 x7) then ((x8 : Int) == (-2 : Int)) else false)))], [], []⟩ : St) [((Q174 x1) = true → (AVle (.slice 1 5 (fun i => ([[(.int .i64 (-1 : Int))], [(.int .i64 (0 : Int))], [(.int .i64 (0 : Int))], [(.int .i64 (0 : Int))], [(.int .i64 (-2 : Int))]] : List (List AV)).getD i []) .exact) (AV.list 1 eI64 (0 : Int) Q172 .exact))), ((Q174 x1) = true → (Q174 x1) = true), ((Q174 x1) = true → (Q174 x1) = true), ((Q174 x1) = true → (Spec Try.prog 12 [(Q176 x2), (AV.list 1 eI64 (0 : Int) Q172 .none)] [] (.bool x3) [])), (((x1.2 : Int) == (0 : Int)) = true → (Q174 x1) = true), ((Q175 x1 x3) = true → (Q175 x1 x3) = true), ((Q175 x1 x3) = true → (Spec Try.prog 17 [(Q176 x2), (.int .i64 (0 : Int)), (.int .i64 (3 : Int))] [] (.bool x4) [])), ((bif ((x1.2 : Int) == (0 : Int)) then x3 else false) = true → (Q175 x1 x3) = true), ((Q170 x1 x3 x4) = true → (Q170 x1 x3 x4) = true), ((Q170 x1 x3 x4) = true → (Spec Try.prog 17 [(Q176 x2), (.int .i64 (1 : Int)), (.int .i64 (3 : Int))] [] (.bool x5) [])), ((Q170 x1 x3 x4) = true → (Q170 x1 x3 x4) = true), ((bif (bif ((x1.2 : Int) == (0 : Int)) then x3 else false) then x4 else false) = true → (Q170 x1 x3 x4) = true), ((Q169 x1 x3 x4 x5) = true → (Q169 x1 x3 x4 x5) = true), ((Q169 x1 x3 x4 x5) = true → (Spec Try.prog 16 [(Q176 x2), (.int .i64 (1 : Int)), (.int .i64 (2 : Int))] [] (.int .i64 x6) [])), ((Q169 x1 x3 x4 x5) = true → (Q169 x1 x3 x4 x5) = true), ((bif (bif (bif ((x1.2 : Int) == (0 : Int)) then x3 else false) then x4 else false) then (!x5) else false) = true → (Q169 x1 x3 x4 x5) = true), (((Q168 x1 x3 x4 x5 x6) == true) = true → ((Q168 x1 x3 x4 x5 x6) == true) = true), (((Q168 x1 x3 x4 x5 x6) == true) = true → (Spec Try.prog 18 [(Q176 x2), (.int .i64 (0 : Int))] [] (AV.list 1 eI64 (0 : Int) x7 .none) [])), (((Q168 x1 x3 x4 x5 x6) == true) = true → ((Q168 x1 x3 x4 x5 x6) == true) = true), (((Q168 x1 x3 x4 x5 x6) == true) = true → ((Q168 x1 x3 x4 x5 x6) == true) = true), ((Q168 x1 x3 x4 x5 x6) = true → ((Q168 x1 x3 x4 x5 x6) == true) = true), (((Q177 x1 x3 x4 x5 x6 x7) == true) = true → ((Q177 x1 x3 x4 x5 x6 x7) == true) = true), (((Q177 x1 x3 x4 x5 x6 x7) == true) = true → (Spec Try.prog 16 [(Q176 x2), (.int .i64 (1 : Int)), (.int .i64 (4 : Int))] [] (.int .i64 x8) [])), (((Q177 x1 x3 x4 x5 x6 x7) == true) = true → ((Q177 x1 x3 x4 x5 x6 x7) == true) = true), ((Q177 x1 x3 x4 x5 x6 x7) = true → ((Q177 x1 x3 x4 x5 x6 x7) == true) = true)] hn mix (no_hand hΓ) (by kernel_rfl) ⟨(fun hg => (av_lit rfl (fun i hi => map_get (e := eI64) (d := (0 : Int)) Q172 i hi))), (fun hg => hg), (fun hg => hg), (fun hg => (ok_lockstepref02_Ints x2 Q172 x3 (cond_t hg hx3))), gT, (fun hg => hg), (fun hg => (ok_dom_Over x2 (0 : Int) (3 : Int) x4 (cond_t hg hx4))), gT, (fun hg => hg), (fun hg => (ok_dom_Over x2 (1 : Int) (3 : Int) x5 (cond_t hg hx5))), (fun hg => hg), gT, (fun hg => hg), (fun hg => (ok_dom_Meet x2 (1 : Int) (2 : Int) x6 (cond_t hg hx6))), (fun hg => hg), gT, (fun hg => hg), (fun hg => (Spec.drop (ok_dom_Kids x2 (0 : Int) x7 (cond_t hg hx7)))), (fun hg => hg), (fun hg => hg), gT, (fun hg => hg), (fun hg => (ok_dom_Meet x2 (1 : Int) (4 : Int) x8 (cond_t hg hx8))), (fun hg => hg), gT, trivial⟩ ?_
  refine awp_ret ?_
  obtain rfl := Option.some.inj h
  exact ⟨.inl rfl, [], by kernel_rfl⟩

noncomputable def m_lockstepref06_Small_L1 (a_succ : List (List (Int))) : Int → Option (LR Int (Unit ⊕ Bool)) :=
  fun (i1 : Int) => (bif (decide ((i1 : Int) < (a_succ.length : Int))) then (chk (InB i1 a_succ.length) (bif (bif (decide (((100 : Int) : Int) < ((a_succ.getD (i1).toNat []).length : Int))) then true else (decide (((100 : Int) : Int) < i1))) then (some (.done (.inr false))) else (some (.next (w64 (i1 + (1 : Int))))))) else (some (.done (.inl ()))))
noncomputable def Q180 (a_succ : List (List (Int))) : AV := (AV.list 1 eLI64 [] a_succ .none)
noncomputable def Q179 (a_succ : List (List (Int))) (i1 : Int) := (decide (((100 : Int) : Int) < ((a_succ.getD (i1).toNat []).length : Int)))
noncomputable def m_lockstepref06_Small (a_succ : List (List (Int))) : Option Bool :=
  ((loopO (S := Int) (X := (Unit ⊕ Bool)) (m_lockstepref06_Small_L1 a_succ) (0 : Int)).bind (fun x3 => (match x3 with | (.inl _) => (some true) | (.inr r5) => (some r5))))
theorem ok_lockstepref06_Small (a_succ : List (List (Int))) (r : Bool) (h : m_lockstepref06_Small a_succ = some r) : Spec Try.prog 10 [(AV.list 1 eLI64 [] a_succ .none)] [] (.bool r) [] := by
  refine spec_of_awp (fn := Try.f10) Try.func10 rfl rfl (by kernel_rfl) (fun Γ hn hΓ => ?_)
  have hn : Γ.n = 20 := hn
  unfold m_lockstepref06_Small at h
  refine rgs0 (⟨[(0, (Q180 a_succ))], [], []⟩ : St) hn mix (no_hand hΓ) (by kernel_rfl) ?_
  refine awp_seq ?_
  refine rgs0 (⟨[(0, (Q180 a_succ)), (3, (.int .i64 (0 : Int)))], [], []⟩ : St) hn mix (no_hand hΓ) (by kernel_rfl) ?_
  refine awp_block ?_
  refine awp_le (st' := (fun (i1 : Int) => (⟨[(0, (Q180 a_succ)), (3, (.int .i64 i1))], [], []⟩ : St)) (0 : Int)) (Le.refl _ _) ?_
  obtain ⟨x3, hx3, h⟩ := bind_some h
  refine awp_loop (fun (i1 : Int) => (⟨[(0, (Q180 a_succ)), (3, (.int .i64 i1))], [], []⟩ : St)) _ (fun (x_ : (Unit ⊕ Bool)) (e : Exit) (st : St) => match x_ with | (.inl _) => e = (.exit 0) ∧ Le Γ st (⟨[], [], []⟩ : St) | (.inr r_) => e = .ret ∧ retK Try.prog Try.f10.results.toList [] (.bool r_) [] e st) ?_ hx3 ?_
  · intro i1 y h
    unfold m_lockstepref06_Small_L1 at h
    refine awp_seq ?_
    refine rgs0 (⟨[(0, (Q180 a_succ)), (3, (.int .i64 i1)), (7, (.bool (decide ((i1 : Int) < (a_succ.length : Int)))))], [], []⟩ : St) hn mix (no_hand hΓ) (by kernel_rfl) ?_
    refine awp_cond (decide ((i1 : Int) < (a_succ.length : Int))) (by kernel_rfl) (fun hb => ?_) (fun hb => ?_)
    · replace h := cond_t hb h
      clear hb
      refine awp_skip ?_
      refine then_normal ?_
      refine awp_seq ?_
      refine awp_block ?_
      obtain ⟨hc2, h⟩ := chk_some h
      refine rgs [] [] (⟨[(0, (Q180 a_succ)), (3, (.int .i64 i1)), (19, (.bool (bif (Q179 a_succ i1) then true else (decide (((100 : Int) : Int) < i1)))))], [], []⟩ : St) [(InB i1 a_succ.length), (((Q179 a_succ i1) == false) = true → ((Q179 a_succ i1) == false) = true), ((Q179 a_succ i1) = false → ((Q179 a_succ i1) == false) = true)] hn mix (no_hand hΓ) (by kernel_rfl) ⟨hc2, (fun hg => hg), gF, trivial⟩ ?_
      refine awp_cond (bif (Q179 a_succ i1) then true else (decide (((100 : Int) : Int) < i1))) (by kernel_rfl) (fun hb => ?_) (fun hb => ?_)
      · replace h := cond_t hb h
        clear hb
        refine rgs0 (⟨[(2, (.bool false))], [], []⟩ : St) hn mix (no_hand hΓ) (by kernel_rfl) ?_
        refine awp_ret ?_
        refine block_ret ?_
        refine then_ret ?_
        obtain rfl := Option.some.inj h
        exact ⟨(by intro hh; cases hh), rfl, ⟨.inl rfl, [], by kernel_rfl⟩⟩
      · replace h := cond_f hb h
        clear hb
        refine awp_skip ?_
        refine block_normal ?_
        refine then_normal ?_
        refine rg0 (⟨[(0, (Q180 a_succ)), (3, (.int .i64 (w64 (i1 + (1 : Int)))))], [], []⟩ : St) hn mix (no_hand hΓ) (by kernel_rfl) ?_
        obtain rfl := Option.some.inj h
        exact ⟨rfl, Le.refl _ _⟩
    · replace h := cond_f hb h
      clear hb
      refine awp_exit ?_
      refine then_exit ?_
      obtain rfl := Option.some.inj h
      exact ⟨(by intro hh; cases hh), rfl, le_restrict_eq [] [] (by kernel_rfl) (no_hand hΓ)⟩
  · clear hx3
    rcases x3 with _ | r5
    · rintro e st' ⟨rfl, hl4⟩
      refine block_here ?_
      refine then_normal ?_
      refine awp_le hl4 ?_
      refine rgs0 (⟨[(2, (.bool true))], [], []⟩ : St) hn mix (no_hand hΓ) (by kernel_rfl) ?_
      refine awp_ret ?_
      obtain rfl := Option.some.inj h
      exact ⟨.inl rfl, [], by kernel_rfl⟩
    · rintro e st' ⟨rfl, hk⟩
      refine block_ret ?_
      refine then_ret ?_
      obtain rfl := Option.some.inj h
      exact hk

noncomputable def m_lockstepref06_Has_L1 (a_l : List (Int)) (a_x : Int) : Int → Option (LR Int (Unit ⊕ Bool)) :=
  fun (i1 : Int) => (bif (decide ((i1 : Int) < (a_l.length : Int))) then (chk (InB i1 a_l.length) (bif (((a_l.getD (i1).toNat (0 : Int)) : Int) == a_x) then (some (.done (.inr true))) else (some (.next (w64 (i1 + (1 : Int))))))) else (some (.done (.inl ()))))
noncomputable def Q181 (a_l : List (Int)) : AV := (AV.list 1 eI64 (0 : Int) a_l .none)
noncomputable def m_lockstepref06_Has (a_l : List (Int)) (a_x : Int) : Option Bool :=
  ((loopO (S := Int) (X := (Unit ⊕ Bool)) (m_lockstepref06_Has_L1 a_l a_x) (0 : Int)).bind (fun x3 => (match x3 with | (.inl _) => (some false) | (.inr r5) => (some r5))))
theorem ok_lockstepref06_Has (a_l : List (Int)) (a_x : Int) (r : Bool) (h : m_lockstepref06_Has a_l a_x = some r) : Spec Try.prog 23 [(AV.list 1 eI64 (0 : Int) a_l .none), (.int .i64 a_x)] [] (.bool r) [] := by
  refine spec_of_awp (fn := Try.f23) Try.func23 rfl rfl (by kernel_rfl) (fun Γ hn hΓ => ?_)
  have hn : Γ.n = 18 := hn
  unfold m_lockstepref06_Has at h
  refine rgs0 (⟨[(0, (Q181 a_l)), (1, (.int .i64 a_x))], [], []⟩ : St) hn mix (no_hand hΓ) (by kernel_rfl) ?_
  refine awp_seq ?_
  refine rgs0 (⟨[(0, (Q181 a_l)), (1, (.int .i64 a_x)), (5, (.int .i64 (0 : Int)))], [], []⟩ : St) hn mix (no_hand hΓ) (by kernel_rfl) ?_
  refine awp_block ?_
  refine awp_le (st' := (fun (i1 : Int) => (⟨[(0, (Q181 a_l)), (1, (.int .i64 a_x)), (5, (.int .i64 i1))], [], []⟩ : St)) (0 : Int)) (Le.refl _ _) ?_
  obtain ⟨x3, hx3, h⟩ := bind_some h
  refine awp_loop (fun (i1 : Int) => (⟨[(0, (Q181 a_l)), (1, (.int .i64 a_x)), (5, (.int .i64 i1))], [], []⟩ : St)) _ (fun (x_ : (Unit ⊕ Bool)) (e : Exit) (st : St) => match x_ with | (.inl _) => e = (.exit 0) ∧ Le Γ st (⟨[], [], []⟩ : St) | (.inr r_) => e = .ret ∧ retK Try.prog Try.f23.results.toList [] (.bool r_) [] e st) ?_ hx3 ?_
  · intro i1 y h
    unfold m_lockstepref06_Has_L1 at h
    refine awp_seq ?_
    refine rgs0 (⟨[(0, (Q181 a_l)), (1, (.int .i64 a_x)), (5, (.int .i64 i1)), (9, (.bool (decide ((i1 : Int) < (a_l.length : Int)))))], [], []⟩ : St) hn mix (no_hand hΓ) (by kernel_rfl) ?_
    refine awp_cond (decide ((i1 : Int) < (a_l.length : Int))) (by kernel_rfl) (fun hb => ?_) (fun hb => ?_)
    · replace h := cond_t hb h
      clear hb
      refine awp_skip ?_
      refine then_normal ?_
      refine awp_seq ?_
      refine awp_block ?_
      obtain ⟨hc2, h⟩ := chk_some h
      refine rgs [] [] (⟨[(0, (Q181 a_l)), (1, (.int .i64 a_x)), (5, (.int .i64 i1)), (17, (.bool (((a_l.getD (i1).toNat (0 : Int)) : Int) == a_x)))], [], []⟩ : St) [(InB i1 a_l.length)] hn mix (no_hand hΓ) (by kernel_rfl) ⟨hc2, trivial⟩ ?_
      refine awp_cond (((a_l.getD (i1).toNat (0 : Int)) : Int) == a_x) (by kernel_rfl) (fun hb => ?_) (fun hb => ?_)
      · replace h := cond_t hb h
        clear hb
        refine rgs0 (⟨[(4, (.bool true))], [], []⟩ : St) hn mix (no_hand hΓ) (by kernel_rfl) ?_
        refine awp_ret ?_
        refine block_ret ?_
        refine then_ret ?_
        obtain rfl := Option.some.inj h
        exact ⟨(by intro hh; cases hh), rfl, ⟨.inl rfl, [], by kernel_rfl⟩⟩
      · replace h := cond_f hb h
        clear hb
        refine awp_skip ?_
        refine block_normal ?_
        refine then_normal ?_
        refine rg0 (⟨[(0, (Q181 a_l)), (1, (.int .i64 a_x)), (5, (.int .i64 (w64 (i1 + (1 : Int)))))], [], []⟩ : St) hn mix (no_hand hΓ) (by kernel_rfl) ?_
        obtain rfl := Option.some.inj h
        exact ⟨rfl, Le.refl _ _⟩
    · replace h := cond_f hb h
      clear hb
      refine awp_exit ?_
      refine then_exit ?_
      obtain rfl := Option.some.inj h
      exact ⟨(by intro hh; cases hh), rfl, le_restrict_eq [] [] (by kernel_rfl) (no_hand hΓ)⟩
  · clear hx3
    rcases x3 with _ | r5
    · rintro e st' ⟨rfl, hl4⟩
      refine block_here ?_
      refine then_normal ?_
      refine awp_le hl4 ?_
      refine rgs0 (⟨[(4, (.bool false))], [], []⟩ : St) hn mix (no_hand hΓ) (by kernel_rfl) ?_
      refine awp_ret ?_
      obtain rfl := Option.some.inj h
      exact ⟨.inl rfl, [], by kernel_rfl⟩
    · rintro e st' ⟨rfl, hk⟩
      refine block_ret ?_
      refine then_ret ?_
      obtain rfl := Option.some.inj h
      exact hk

noncomputable def m_lockstepref06_Make_L1 (a_succ : List (List (Int))) (i1 : Int) : Int → Option (LR Int (Unit ⊕ (TGraph × Int))) :=
  fun (i2 : Int) => (chk (InB i1 a_succ.length) (bif (decide ((i2 : Int) < ((a_succ.getD (i1).toNat []).length : Int))) then (chk (InB i1 a_succ.length) (chk (InB i2 (a_succ.getD (i1).toNat []).length) (chk (((decide ((((a_succ.getD (i1).toNat []).getD (i2).toNat (0 : Int)) : Int) < (0 : Int))) == false) = true → (InB i1 a_succ.length)) (chk (((decide ((((a_succ.getD (i1).toNat []).getD (i2).toNat (0 : Int)) : Int) < (0 : Int))) == false) = true → (InB i2 (a_succ.getD (i1).toNat []).length)) (chk ((((bif (decide ((((a_succ.getD (i1).toNat []).getD (i2).toNat (0 : Int)) : Int) < (0 : Int))) then true else (decide (((a_succ.length : Int) : Int) ≤ ((a_succ.getD (i1).toNat []).getD (i2).toNat (0 : Int))))) == false) && ((decide (((0 : Int) : Int) < i2)) == true)) = true → (InB i1 a_succ.length)) (chk ((((bif (decide ((((a_succ.getD (i1).toNat []).getD (i2).toNat (0 : Int)) : Int) < (0 : Int))) then true else (decide (((a_succ.length : Int) : Int) ≤ ((a_succ.getD (i1).toNat []).getD (i2).toNat (0 : Int))))) == false) && ((decide (((0 : Int) : Int) < i2)) == true)) = true → (InB i2 (a_succ.getD (i1).toNat []).length)) (chk ((((bif (decide ((((a_succ.getD (i1).toNat []).getD (i2).toNat (0 : Int)) : Int) < (0 : Int))) then true else (decide (((a_succ.length : Int) : Int) ≤ ((a_succ.getD (i1).toNat []).getD (i2).toNat (0 : Int))))) == false) && ((decide (((0 : Int) : Int) < i2)) == true)) = true → (InB i1 a_succ.length)) (chk ((((bif (decide ((((a_succ.getD (i1).toNat []).getD (i2).toNat (0 : Int)) : Int) < (0 : Int))) then true else (decide (((a_succ.length : Int) : Int) ≤ ((a_succ.getD (i1).toNat []).getD (i2).toNat (0 : Int))))) == false) && ((decide (((0 : Int) : Int) < i2)) == true)) = true → (InB (w64 (i2 - (1 : Int))) (a_succ.getD (i1).toNat []).length)) (bif (bif (bif (decide ((((a_succ.getD (i1).toNat []).getD (i2).toNat (0 : Int)) : Int) < (0 : Int))) then true else (decide (((a_succ.length : Int) : Int) ≤ ((a_succ.getD (i1).toNat []).getD (i2).toNat (0 : Int))))) then true else (bif (decide (((0 : Int) : Int) < i2)) then (decide ((((a_succ.getD (i1).toNat []).getD (i2).toNat (0 : Int)) : Int) ≤ ((a_succ.getD (i1).toNat []).getD ((w64 (i2 - (1 : Int)))).toNat (0 : Int)))) else false)) then (some (.done (.inr ((⟨([] : List (List (Int))), ([] : List (List (Int)))⟩ : TGraph), (5 : Int))))) else (some (.next (w64 (i2 + (1 : Int)))))))))))))) else (some (.done (.inl ())))))
noncomputable def m_lockstepref06_Make_L2 (a_succ : List (List (Int))) : Int → Option (LR Int (Unit ⊕ (TGraph × Int))) :=
  fun (i1 : Int) => (bif (decide ((i1 : Int) < (a_succ.length : Int))) then ((loopO (S := Int) (X := (Unit ⊕ (TGraph × Int))) (m_lockstepref06_Make_L1 a_succ i1) (0 : Int)).bind (fun x12 => (match x12 with | (.inl _) => (some (.next (w64 (i1 + (1 : Int))))) | (.inr r14) => (some (.done (.inr r14)))))) else (some (.done (.inl ()))))
noncomputable def m_lockstepref06_Make_L3 (a_succ : List (List (Int))) (i18 : Int) : (Int × List (List (Int))) → Option (LR (Int × List (List (Int))) (List (List (Int)))) :=
  fun ((i21, l22) : (Int × List (List (Int)))) => (bif (decide ((i21 : Int) < (a_succ.length : Int))) then (Option.bind (α := List (List (Int))) (chk (InB i21 a_succ.length) ((m_lockstepref06_Has (a_succ.getD (i21).toNat []) i18).bind fun x26 => (bif x26 then (chk (InB i18 l22.length) (chk (InB i18 l22.length) (chk ((l22.getD (i18).toNat []).length + ([i21] : List (Int)).length ≤ room) (chk (InB i18 l22.length) (some ((l22.set (i18).toNat ((l22.getD (i18).toNat []) ++ ([i21] : List (Int)))))))))) else (some (l22))))) (fun x31 => ((some (.next ((w64 (i21 + (1 : Int))), x31)))))) else (some (.done l22)))
noncomputable def m_lockstepref06_Make_L4 (a_succ : List (List (Int))) : (Int × List (List (Int))) → Option (LR (Int × List (List (Int))) (List (List (Int)))) :=
  fun ((i18, l19) : (Int × List (List (Int)))) => (bif (decide ((i18 : Int) < (a_succ.length : Int))) then ((loopO (S := (Int × List (List (Int)))) (X := List (List (Int))) (m_lockstepref06_Make_L3 a_succ i18) ((0 : Int), l19)).bind (fun x33 => ((some (.next ((w64 (i18 + (1 : Int))), x33)))))) else (some (.done l19)))
noncomputable def Q183 : List AV := [(.slice 0 0 (fun _ => []) .exact), (.slice 0 0 (fun _ => []) .exact)]
noncomputable def Q204 : List (Nat × Own) := [(2, .row 26 Q183)]
noncomputable def Q198 (a_succ : List (List (Int))) := (a_succ.length : Int)
noncomputable def Q185 (a_succ : List (List (Int))) : AV := (AV.list 1 eLI64 [] a_succ .none)
noncomputable def Q187 (a_succ : List (List (Int))) : AV := (.int .i64 (Q198 a_succ))
noncomputable def Q186 (i2 : Int) := ((decide (((0 : Int) : Int) < i2)) == true)
noncomputable def Q193 (a_succ : List (List (Int))) := (((Q198 a_succ) : Int) == (0 : Int))
noncomputable def Q192 : List (Nat × AV) := [(2, (.ptr 2 0)), (3, (.int .i64 (5 : Int)))]
noncomputable def Q182 (a_succ : List (List (Int))) (i1 : Int) (i2 : Int) := (bif (decide ((((a_succ.getD (i1).toNat []).getD (i2).toNat (0 : Int)) : Int) < (0 : Int))) then true else (decide (((Q198 a_succ) : Int) ≤ ((a_succ.getD (i1).toNat []).getD (i2).toNat (0 : Int)))))
noncomputable def Q194 (a_succ : List (List (Int))) (i1 : Int) (i2 : Int) := (((Q182 a_succ i1 i2) == false) && (Q186 i2))
noncomputable def Q190 (l22 : List (List (Int))) (i18 : Int) (i21 : Int) := ((l22.getD (i18).toNat []) ++ ([i21] : List (Int)))
noncomputable def Q189 (a_succ : List (List (Int))) := (List.replicate ((Q198 a_succ)).toNat ([] : List (Int)))
noncomputable def Q200 (a_succ : List (List (Int))) : List (Nat × AV) := [(0, (Q185 a_succ)), (2, (.ptr 2 0)), (4, (Q187 a_succ)), (7, (.ptr 7 0))]
noncomputable def Q201 (a_succ : List (List (Int))) (i18 : Int) : List (Nat × AV) := [(0, (Q185 a_succ)), (2, (.ptr 2 0)), (4, (Q187 a_succ)), (7, (.ptr 7 0)), (8, (.int .i64 i18))]
noncomputable def Q184 (a_succ : List (List (Int))) (i1 : Int) (i2 : Int) := ((decide ((((a_succ.getD (i1).toNat []).getD (i2).toNat (0 : Int)) : Int) < (0 : Int))) == false)
noncomputable def Q188 : List AV := [(AV.list 1 eLI64 [] ([] : List (List (Int))) .exact), (AV.list 1 eLI64 [] ([] : List (List (Int))) .exact)]
noncomputable def Q199 (a_succ : List (List (Int))) (i1 : Int) := (⟨[(0, (Q185 a_succ)), (2, (.ptr 2 0)), (4, (Q187 a_succ)), (5, (.int .i64 i1))], Q204, []⟩ : St)
noncomputable def Q195 (a_succ : List (List (Int))) (i18 : Int) (i21 : Int) : List (Nat × AV) := [(0, (Q185 a_succ)), (2, (.ptr 2 0)), (4, (Q187 a_succ)), (7, (.ptr 7 0)), (8, (.int .i64 i18)), (9, (.int .i64 i21))]
noncomputable def Q203 := (⟨Q192, [(2, .row 26 [(AV.list 1 eLI64 [] ([] : List (List (Int))) .none), (AV.list 1 eLI64 [] ([] : List (List (Int))) .none)])], []⟩ : St)
noncomputable def Q196 (a_succ : List (List (Int))) (l19 : List (List (Int))) : List (Nat × Own) := [(2, .row 26 Q183), (7, .row 26 [(Q185 a_succ), (.vsl 77 l19.length)]), (77, .arr 1 31 l19.length (rowF 1 eI64 (0 : Int) l19 (Tag.fam 70077)))]
noncomputable def Q197 (a_succ : List (List (Int))) (l22 : List (List (Int))) : List (Nat × Own) := [(2, .row 26 Q183), (7, .row 26 [(Q185 a_succ), (.vsl 77 l22.length)]), (77, .arr 1 31 l22.length (rowF 1 eI64 (0 : Int) l22 (Tag.fam 70077)))]
noncomputable def Q202 (a_succ : List (List (Int))) (i1 : Int) := (fun (i2 : Int) => (⟨[(0, (Q185 a_succ)), (2, (.ptr 2 0)), (4, (Q187 a_succ)), (5, (.int .i64 i1)), (6, (.int .i64 i2))], Q204, []⟩ : St))
noncomputable def Q191 (i2 : Int) (a_succ : List (List (Int))) (i1 : Int) := (bif (decide (((0 : Int) : Int) < i2)) then (decide ((((a_succ.getD (i1).toNat []).getD (i2).toNat (0 : Int)) : Int) ≤ ((a_succ.getD (i1).toNat []).getD ((w64 (i2 - (1 : Int)))).toNat (0 : Int)))) else false)
noncomputable def m_lockstepref06_Make (a_succ : List (List (Int))) : Option (TGraph × Int) :=
  (bif (bif (((a_succ.length : Int) : Int) == (0 : Int)) then true else (decide (((64 : Int) : Int) < (a_succ.length : Int)))) then (some ((⟨([] : List (List (Int))), ([] : List (List (Int)))⟩ : TGraph), (5 : Int))) else ((loopO (S := Int) (X := (Unit ⊕ (TGraph × Int))) (m_lockstepref06_Make_L2 a_succ) (0 : Int)).bind (fun x15 => (match x15 with | (.inl _) => (chk (0 ≤ (a_succ.length : Int) ∧ (a_succ.length : Int) ≤ (a_succ.length : Int) ∧ (a_succ.length : Int) ≤ (room : Int)) ((loopO (S := (Int × List (List (Int)))) (X := List (List (Int))) (m_lockstepref06_Make_L4 a_succ) ((0 : Int), (List.replicate ((a_succ.length : Int)).toNat ([] : List (Int))))).bind (fun x35 => ((some ((⟨a_succ, x35⟩ : TGraph), (0 : Int))))))) | (.inr r37) => (some r37)))))
theorem ok_lockstepref06_Make (a_succ : List (List (Int))) (r : (TGraph × Int)) (h : m_lockstepref06_Make a_succ = some r) : Spec Try.prog 40 [(AV.list 1 eLI64 [] a_succ .none)] [] (.tuple [(.agg (eTGraph r.1)), (.int .i64 r.2)]) [] := by
  refine spec_of_awp (fn := Try.f40) Try.func40 rfl rfl (by kernel_rfl) (fun Γ hn hΓ => ?_)
  have hn : Γ.n = 108 := hn
  unfold m_lockstepref06_Make at h
  refine rgs0 (⟨[(0, (Q185 a_succ)), (2, (.ptr 2 0))], Q204, []⟩ : St) hn mix (no_hand hΓ) (by kernel_rfl) ?_
  refine rgs0 (⟨[(0, (Q185 a_succ)), (2, (.ptr 2 0)), (4, (Q187 a_succ))], Q204, []⟩ : St) hn mix (no_hand hΓ) (by kernel_rfl) ?_
  refine awp_seq ?_
  refine rgs [] [] (⟨[(0, (Q185 a_succ)), (2, (.ptr 2 0)), (4, (Q187 a_succ)), (17, (.bool (bif (Q193 a_succ) then true else (decide (((64 : Int) : Int) < (Q198 a_succ))))))], Q204, []⟩ : St) [(((Q193 a_succ) == false) = true → ((Q193 a_succ) == false) = true), ((Q193 a_succ) = false → ((Q193 a_succ) == false) = true)] hn mix (no_hand hΓ) (by kernel_rfl) ⟨(fun hg => hg), gF, trivial⟩ ?_
  refine awp_cond (bif (Q193 a_succ) then true else (decide (((64 : Int) : Int) < (Q198 a_succ)))) (by kernel_rfl) (fun hb => ?_) (fun hb => ?_)
  · replace h := cond_t hb h
    clear hb
    refine rgs [] [(18, (.agg Q188))] (⟨Q192, [(2, .row 26 Q188)], []⟩ : St) [(AVle (.agg Q183) (.agg Q188))] hn mix (no_hand hΓ) (by kernel_rfl) ⟨(AVle.agg (.cons av_nil (.cons av_nil .nil))), trivial⟩ ?_
    refine awp_le (st' := Q203) (Le.trans (le_restrict_eq (st' := (⟨Q192, [(2, .row 26 Q188)], []⟩ : St)) [2, 3] [2] (by kernel_rfl) (no_hand hΓ)) (le_of (.cons (AVle.refl _) (.cons (AVle.refl _) .nil)) (.row (.cons AVle.untag (.cons AVle.untag .nil)) .nil))) ?_
    refine awp_ret ?_
    refine then_ret ?_
    obtain rfl := Option.some.inj h
    exact ⟨.inl rfl, [], by kernel_rfl⟩
  · replace h := cond_f hb h
    clear hb
    refine awp_skip ?_
    refine then_normal ?_
    refine awp_seq ?_
    refine rgs0 (⟨[(0, (Q185 a_succ)), (2, (.ptr 2 0)), (4, (Q187 a_succ)), (5, (.int .i64 (0 : Int)))], Q204, []⟩ : St) hn mix (no_hand hΓ) (by kernel_rfl) ?_
    refine awp_block ?_
    refine awp_le (st' := (fun (i1 : Int) => (Q199 a_succ i1)) (0 : Int)) (Le.refl _ _) ?_
    obtain ⟨x15, hx15, h⟩ := bind_some h
    refine awp_loop (fun (i1 : Int) => (Q199 a_succ i1)) _ (fun (x_ : (Unit ⊕ (TGraph × Int))) (e : Exit) (st : St) => match x_ with | (.inl _) => e = (.exit 0) ∧ Le Γ st (⟨[(0, (Q185 a_succ)), (2, (.ptr 2 0)), (4, (Q187 a_succ))], Q204, []⟩ : St) | (.inr r_) => e = .ret ∧ retK Try.prog Try.f40.results.toList [] (.tuple [(.agg (eTGraph r_.1)), (.int .i64 r_.2)]) [] e st) ?_ hx15 ?_
    · intro i1 y h
      unfold m_lockstepref06_Make_L2 at h
      refine awp_seq ?_
      refine rgs0 (⟨[(0, (Q185 a_succ)), (2, (.ptr 2 0)), (4, (Q187 a_succ)), (5, (.int .i64 i1)), (21, (.bool (decide ((i1 : Int) < (Q198 a_succ)))))], Q204, []⟩ : St) hn mix (no_hand hΓ) (by kernel_rfl) ?_
      refine awp_cond (decide ((i1 : Int) < (Q198 a_succ))) (by kernel_rfl) (fun hb => ?_) (fun hb => ?_)
      · replace h := cond_t hb h
        clear hb
        refine awp_skip ?_
        refine then_normal ?_
        refine awp_seq ?_
        refine awp_block ?_
        refine rgs0 (⟨[(0, (Q185 a_succ)), (2, (.ptr 2 0)), (4, (Q187 a_succ)), (5, (.int .i64 i1)), (6, (.int .i64 (0 : Int)))], Q204, []⟩ : St) hn mix (no_hand hΓ) (by kernel_rfl) ?_
        refine awp_block ?_
        refine awp_le (st' := (Q202 a_succ i1) (0 : Int)) (Le.refl _ _) ?_
        obtain ⟨x12, hx12, h⟩ := bind_some h
        refine awp_loop (Q202 a_succ i1) _ (fun (x_ : (Unit ⊕ (TGraph × Int))) (e : Exit) (st : St) => match x_ with | (.inl _) => e = (.exit 2) ∧ Le Γ st (Q199 a_succ i1) | (.inr r_) => e = .ret ∧ retK Try.prog Try.f40.results.toList [] (.tuple [(.agg (eTGraph r_.1)), (.int .i64 r_.2)]) [] e st) ?_ hx12 ?_
        · intro i2 y h
          unfold m_lockstepref06_Make_L1 at h
          refine awp_seq ?_
          obtain ⟨hc3, h⟩ := chk_some h
          refine rgs [] [] (⟨[(0, (Q185 a_succ)), (2, (.ptr 2 0)), (4, (Q187 a_succ)), (5, (.int .i64 i1)), (6, (.int .i64 i2)), (30, (.bool (decide ((i2 : Int) < ((a_succ.getD (i1).toNat []).length : Int)))))], Q204, []⟩ : St) [(InB i1 a_succ.length)] hn mix (no_hand hΓ) (by kernel_rfl) ⟨hc3, trivial⟩ ?_
          refine awp_cond (decide ((i2 : Int) < ((a_succ.getD (i1).toNat []).length : Int))) (by kernel_rfl) (fun hb => ?_) (fun hb => ?_)
          · replace h := cond_t hb h
            clear hb
            refine awp_skip ?_
            refine then_normal ?_
            refine awp_seq ?_
            refine awp_block ?_
            obtain ⟨hc4, h⟩ := chk_some h
            obtain ⟨hc5, h⟩ := chk_some h
            obtain ⟨hc6, h⟩ := chk_some h
            obtain ⟨hc7, h⟩ := chk_some h
            obtain ⟨hc8, h⟩ := chk_some h
            obtain ⟨hc9, h⟩ := chk_some h
            obtain ⟨hc10, h⟩ := chk_some h
            obtain ⟨hc11, h⟩ := chk_some h
            refine rgs [] [] (⟨[(0, (Q185 a_succ)), (2, (.ptr 2 0)), (4, (Q187 a_succ)), (5, (.int .i64 i1)), (6, (.int .i64 i2)), (73, (.bool (bif (Q182 a_succ i1 i2) then true else (Q191 i2 a_succ i1))))], Q204, []⟩ : St) [(InB i1 a_succ.length), (InB i2 (a_succ.getD (i1).toNat []).length), ((Q184 a_succ i1 i2) = true → (Q184 a_succ i1 i2) = true), ((Q184 a_succ i1 i2) = true → (Q184 a_succ i1 i2) = true), ((Q184 a_succ i1 i2) = true → (InB i1 a_succ.length)), ((Q184 a_succ i1 i2) = true → (Q184 a_succ i1 i2) = true), ((Q184 a_succ i1 i2) = true → (Q184 a_succ i1 i2) = true), ((Q184 a_succ i1 i2) = true → (Q184 a_succ i1 i2) = true), ((Q184 a_succ i1 i2) = true → (InB i2 (a_succ.getD (i1).toNat []).length)), ((Q184 a_succ i1 i2) = true → (Q184 a_succ i1 i2) = true), ((Q184 a_succ i1 i2) = true → (Q184 a_succ i1 i2) = true), ((Q184 a_succ i1 i2) = true → (Q184 a_succ i1 i2) = true), ((decide ((((a_succ.getD (i1).toNat []).getD (i2).toNat (0 : Int)) : Int) < (0 : Int))) = false → (Q184 a_succ i1 i2) = true), (((Q182 a_succ i1 i2) == false) = true → ((Q182 a_succ i1 i2) == false) = true), (((Q182 a_succ i1 i2) == false) = true → ((Q182 a_succ i1 i2) == false) = true), ((Q194 a_succ i1 i2) = true → (Q194 a_succ i1 i2) = true), ((Q194 a_succ i1 i2) = true → (Q194 a_succ i1 i2) = true), ((Q194 a_succ i1 i2) = true → (InB i1 a_succ.length)), ((Q194 a_succ i1 i2) = true → (Q194 a_succ i1 i2) = true), ((Q194 a_succ i1 i2) = true → (Q194 a_succ i1 i2) = true), ((Q194 a_succ i1 i2) = true → (Q194 a_succ i1 i2) = true), ((Q194 a_succ i1 i2) = true → (InB i2 (a_succ.getD (i1).toNat []).length)), ((Q194 a_succ i1 i2) = true → (Q194 a_succ i1 i2) = true), ((Q194 a_succ i1 i2) = true → (Q194 a_succ i1 i2) = true), ((Q194 a_succ i1 i2) = true → (Q194 a_succ i1 i2) = true), ((Q194 a_succ i1 i2) = true → (InB i1 a_succ.length)), ((Q194 a_succ i1 i2) = true → (Q194 a_succ i1 i2) = true), ((Q194 a_succ i1 i2) = true → (Q194 a_succ i1 i2) = true), ((Q194 a_succ i1 i2) = true → (Q194 a_succ i1 i2) = true), ((Q194 a_succ i1 i2) = true → (Q194 a_succ i1 i2) = true), ((Q194 a_succ i1 i2) = true → (InB (w64 (i2 - (1 : Int))) (a_succ.getD (i1).toNat []).length)), ((Q194 a_succ i1 i2) = true → (Q194 a_succ i1 i2) = true), ((Q194 a_succ i1 i2) = true → (Q194 a_succ i1 i2) = true), ((Q194 a_succ i1 i2) = true → (Q194 a_succ i1 i2) = true), (((Q182 a_succ i1 i2) == false) = true → ((Q182 a_succ i1 i2) == false) = true), (((Q182 a_succ i1 i2) == false) = true → ((decide (((0 : Int) : Int) < i2)) = true → (Q194 a_succ i1 i2) = true)), ((Q182 a_succ i1 i2) = false → ((Q182 a_succ i1 i2) == false) = true)] hn mix (no_hand hΓ) (by kernel_rfl) ⟨hc4, hc5, (fun hg => hg), (fun hg => hg), (fun hg => (hc6 hg)), (fun hg => hg), (fun hg => hg), (fun hg => hg), (fun hg => (hc7 hg)), (fun hg => hg), (fun hg => hg), (fun hg => hg), gF, (fun hg => hg), (fun hg => hg), (fun hg => hg), (fun hg => hg), (fun hg => (hc8 hg)), (fun hg => hg), (fun hg => hg), (fun hg => hg), (fun hg => (hc9 hg)), (fun hg => hg), (fun hg => hg), (fun hg => hg), (fun hg => (hc10 hg)), (fun hg => hg), (fun hg => hg), (fun hg => hg), (fun hg => hg), (fun hg => (hc11 hg)), (fun hg => hg), (fun hg => hg), (fun hg => hg), (fun hg => hg), (fun hg => (aT hg)), gF, trivial⟩ ?_
            refine awp_cond (bif (Q182 a_succ i1 i2) then true else (Q191 i2 a_succ i1)) (by kernel_rfl) (fun hb => ?_) (fun hb => ?_)
            · replace h := cond_t hb h
              clear hb
              refine rgs [] [(74, (.agg Q188))] (⟨Q192, [(2, .row 26 Q188)], []⟩ : St) [(AVle (.agg Q183) (.agg Q188))] hn mix (no_hand hΓ) (by kernel_rfl) ⟨(AVle.agg (.cons av_nil (.cons av_nil .nil))), trivial⟩ ?_
              refine awp_le (st' := Q203) (Le.trans (le_restrict_eq (st' := (⟨Q192, [(2, .row 26 Q188)], []⟩ : St)) [2, 3] [2] (by kernel_rfl) (no_hand hΓ)) (le_of (.cons (AVle.refl _) (.cons (AVle.refl _) .nil)) (.row (.cons AVle.untag (.cons AVle.untag .nil)) .nil))) ?_
              refine awp_ret ?_
              refine block_ret ?_
              refine then_ret ?_
              obtain rfl := Option.some.inj h
              exact ⟨(by intro hh; cases hh), rfl, ⟨.inl rfl, [], by kernel_rfl⟩⟩
            · replace h := cond_f hb h
              clear hb
              refine awp_skip ?_
              refine block_normal ?_
              refine then_normal ?_
              refine rg0 (⟨[(0, (Q185 a_succ)), (2, (.ptr 2 0)), (4, (Q187 a_succ)), (5, (.int .i64 i1)), (6, (.int .i64 (w64 (i2 + (1 : Int)))))], Q204, []⟩ : St) hn mix (no_hand hΓ) (by kernel_rfl) ?_
              obtain rfl := Option.some.inj h
              exact ⟨rfl, Le.refl _ _⟩
          · replace h := cond_f hb h
            clear hb
            refine awp_exit ?_
            refine then_exit ?_
            obtain rfl := Option.some.inj h
            exact ⟨(by intro hh; cases hh), rfl, le_restrict_eq [0, 2, 4, 5] [2] (by kernel_rfl) (no_hand hΓ)⟩
        · clear hx12
          rcases x12 with _ | r14
          · rintro e st' ⟨rfl, hl13⟩
            refine block_here ?_
            refine block_normal ?_
            refine then_normal ?_
            refine awp_le hl13 ?_
            refine rg0 (⟨[(0, (Q185 a_succ)), (2, (.ptr 2 0)), (4, (Q187 a_succ)), (5, (.int .i64 (w64 (i1 + (1 : Int)))))], Q204, []⟩ : St) hn mix (no_hand hΓ) (by kernel_rfl) ?_
            obtain rfl := Option.some.inj h
            exact ⟨rfl, Le.refl _ _⟩
          · rintro e st' ⟨rfl, hk⟩
            refine block_ret ?_
            refine block_ret ?_
            refine then_ret ?_
            obtain rfl := Option.some.inj h
            exact ⟨(by intro hh; cases hh), rfl, hk⟩
      · replace h := cond_f hb h
        clear hb
        refine awp_exit ?_
        refine then_exit ?_
        obtain rfl := Option.some.inj h
        exact ⟨(by intro hh; cases hh), rfl, le_restrict_eq [0, 2, 4] [2] (by kernel_rfl) (no_hand hΓ)⟩
    · clear hx15
      rcases x15 with _ | r37
      · rintro e st' ⟨rfl, hl16⟩
        refine block_here ?_
        refine then_normal ?_
        refine awp_le hl16 ?_
        obtain ⟨hc17, h⟩ := chk_some h
        refine rgs [] [] (⟨(Q200 a_succ), [(2, .row 26 Q183), (7, .row 26 [(Q185 a_succ), (.vsl 77 ((Q198 a_succ)).toNat)]), (77, .arr 1 31 (((Q198 a_succ)).toNat) (fun i_ => AV.eraseAll (fun n_ => memB n_ [2, 7, 77]) ((fun _ => [(.slice 0 0 (fun _ => []) .exact)]) i_)))], []⟩ : St) [(0 ≤ (Q198 a_succ) ∧ (Q198 a_succ) ≤ (Q198 a_succ) ∧ (Q198 a_succ) ≤ (room : Int))] hn mix (no_hand hΓ) (by kernel_rfl) ⟨hc17, trivial⟩ ?_
        refine awp_le (Le.trans (le_of (st' := (⟨(Q200 a_succ), [(2, .row 26 Q183), (7, .row 26 [(Q185 a_succ), (.vsl 77 ((Q198 a_succ)).toNat)]), (77, .arr 1 31 (((Q198 a_succ)).toNat) (rowF 1 eI64 (0 : Int) (Q189 a_succ) (fun _ => .exact)))], []⟩ : St)) (TmpsLe.refl _) (.same (.same (.arr fam_zero .nil)))) (Le.trans (Le.trans (le_birth (r := 77) (b := 70077) eI64 (0 : Int) (Q189 a_succ) 3 rfl rfl (List.length_replicate ..).symm (fun h_ => absurd h_ (by decide))) (le_eq (st' := (⟨(Q200 a_succ), [(2, .row 26 Q183), (7, .row 26 [(Q185 a_succ), (.vsl 77 ((Q198 a_succ)).toNat)]), (77, .arr 1 31 (((Q198 a_succ)).toNat) (rowF 1 eI64 (0 : Int) (Q189 a_succ) (Tag.fam 70077)))], [(70077, ⟨1, 3, famM (Q189 a_succ)⟩)]⟩ : St)) (by kernel_rfl))) (le_eq (congrArg (fun k_ : Nat => (⟨(Q200 a_succ), [(2, .row 26 Q183), (7, .row 26 [(Q185 a_succ), (.vsl 77 k_)]), (77, .arr 1 31 k_ (rowF 1 eI64 (0 : Int) (Q189 a_succ) (Tag.fam 70077)))], [(70077, ⟨1, 3, famM (Q189 a_succ)⟩)]⟩ : St)) (show ((Q198 a_succ)).toNat = (Q189 a_succ).length from (List.length_replicate ..).symm))))) ?_
        refine awp_seq ?_
        refine rgs0 (⟨[(0, (Q185 a_succ)), (2, (.ptr 2 0)), (4, (Q187 a_succ)), (7, (.ptr 7 0)), (8, (.int .i64 (0 : Int)))], [(2, .row 26 Q183), (7, .row 26 [(Q185 a_succ), (.vsl 77 (Q189 a_succ).length)]), (77, .arr 1 31 ((Q189 a_succ).length) (rowF 1 eI64 (0 : Int) (Q189 a_succ) (Tag.fam 70077)))], [(70077, ⟨1, 3, famM (Q189 a_succ)⟩)]⟩ : St) hn mix (no_hand hΓ) (by kernel_rfl) ?_
        refine awp_block ?_
        refine awp_le (st' := (fun ((i18, l19) : (Int × List (List (Int)))) => (⟨(Q201 a_succ i18), (Q196 a_succ l19), [(70077, ⟨1, 3, famM l19⟩)]⟩ : St)) ((0 : Int), (Q189 a_succ))) (Le.refl _ _) ?_
        obtain ⟨x35, hx35, h⟩ := bind_some h
        refine awp_loop (fun ((i18, l19) : (Int × List (List (Int)))) => (⟨(Q201 a_succ i18), (Q196 a_succ l19), [(70077, ⟨1, 3, famM l19⟩)]⟩ : St)) _ (fun (l20 : List (List (Int))) (e : Exit) (st : St) => e = (.exit 4) ∧ Le Γ st (⟨[(2, (.ptr 2 0)), (7, (.ptr 7 0))], [(2, .row 26 Q183), (7, .row 26 [(Q185 a_succ), (.vsl 77 l20.length)]), (77, .arr 1 31 l20.length (rowF 1 eI64 (0 : Int) l20 (Tag.fam 70077)))], [(70077, ⟨1, 3, famM l20⟩)]⟩ : St)) ?_ hx35 ?_
        · rintro ⟨i18, l19⟩ y h
          unfold m_lockstepref06_Make_L4 at h
          refine awp_seq ?_
          refine rgs0 (⟨[(0, (Q185 a_succ)), (2, (.ptr 2 0)), (4, (Q187 a_succ)), (7, (.ptr 7 0)), (8, (.int .i64 i18)), (81, (.bool (decide ((i18 : Int) < (Q198 a_succ)))))], (Q196 a_succ l19), [(70077, ⟨1, 3, famM l19⟩)]⟩ : St) hn mix (no_hand hΓ) (by kernel_rfl) ?_
          refine awp_cond (decide ((i18 : Int) < (Q198 a_succ))) (by kernel_rfl) (fun hb => ?_) (fun hb => ?_)
          · replace h := cond_t hb h
            clear hb
            refine awp_skip ?_
            refine then_normal ?_
            refine awp_seq ?_
            refine awp_block ?_
            refine rgs0 (⟨[(0, (Q185 a_succ)), (2, (.ptr 2 0)), (4, (Q187 a_succ)), (7, (.ptr 7 0)), (8, (.int .i64 i18)), (9, (.int .i64 (0 : Int)))], (Q196 a_succ l19), [(70077, ⟨1, 3, famM l19⟩)]⟩ : St) hn mix (no_hand hΓ) (by kernel_rfl) ?_
            refine awp_block ?_
            refine awp_le (st' := (fun ((i21, l22) : (Int × List (List (Int)))) => (⟨(Q195 a_succ i18 i21), (Q197 a_succ l22), [(70077, ⟨1, 3, famM l22⟩)]⟩ : St)) ((0 : Int), l19)) (Le.refl _ _) ?_
            obtain ⟨x33, hx33, h⟩ := bind_some h
            refine awp_loop (fun ((i21, l22) : (Int × List (List (Int)))) => (⟨(Q195 a_succ i18 i21), (Q197 a_succ l22), [(70077, ⟨1, 3, famM l22⟩)]⟩ : St)) _ (fun (l23 : List (List (Int))) (e : Exit) (st : St) => e = (.exit 6) ∧ Le Γ st (⟨(Q201 a_succ i18), [(2, .row 26 Q183), (7, .row 26 [(Q185 a_succ), (.vsl 77 l23.length)]), (77, .arr 1 31 l23.length (rowF 1 eI64 (0 : Int) l23 (Tag.fam 70077)))], [(70077, ⟨1, 3, famM l23⟩)]⟩ : St)) ?_ hx33 ?_
            · rintro ⟨i21, l22⟩ y h
              unfold m_lockstepref06_Make_L3 at h
              refine awp_seq ?_
              refine rgs0 (⟨[(0, (Q185 a_succ)), (2, (.ptr 2 0)), (4, (Q187 a_succ)), (7, (.ptr 7 0)), (8, (.int .i64 i18)), (9, (.int .i64 i21)), (86, (.bool (decide ((i21 : Int) < (Q198 a_succ)))))], (Q197 a_succ l22), [(70077, ⟨1, 3, famM l22⟩)]⟩ : St) hn mix (no_hand hΓ) (by kernel_rfl) ?_
              refine awp_cond (decide ((i21 : Int) < (Q198 a_succ))) (by kernel_rfl) (fun hb => ?_) (fun hb => ?_)
              · replace h := cond_t hb h
                clear hb
                refine awp_skip ?_
                refine then_normal ?_
                refine awp_seq ?_
                obtain ⟨x31, hx31, h⟩ := bind_some h
                refine awp_join (fun (l24 : List (List (Int))) (e : Exit) (st : St) => e = .normal ∧ Le Γ st (⟨(Q195 a_succ i18 i21), [(2, .row 26 Q183), (7, .row 26 [(Q185 a_succ), (.vsl 77 l24.length)]), (77, .arr 1 31 l24.length (rowF 1 eI64 (0 : Int) l24 (Tag.fam 70077)))], [(70077, ⟨1, 3, famM l24⟩)]⟩ : St)) hx31 ?_ ?_
                · clear h hx31
                  intro y h
                  refine awp_block ?_
                  obtain ⟨hc25, h⟩ := chk_some h
                  obtain ⟨x26, hx26, h⟩ := bind_some h
                  refine rgs [⟨[], [], (.bool x26), []⟩] [] (⟨[(0, (Q185 a_succ)), (2, (.ptr 2 0)), (4, (Q187 a_succ)), (7, (.ptr 7 0)), (8, (.int .i64 i18)), (9, (.int .i64 i21)), (94, (.bool x26))], (Q197 a_succ l22), [(70077, ⟨1, 3, famM l22⟩)]⟩ : St) [(InB i21 a_succ.length), (Spec Try.prog 23 [(AV.list 1 eI64 (0 : Int) (a_succ.getD (i21).toNat []) .none), (.int .i64 i18)] [] (.bool x26) [])] hn mix (no_hand hΓ) (by kernel_rfl) ⟨hc25, (ok_lockstepref06_Has (a_succ.getD (i21).toNat []) i18 x26 hx26), trivial⟩ ?_
                  refine awp_cond x26 (by kernel_rfl) (fun hb => ?_) (fun hb => ?_)
                  · replace h := cond_t hb h
                    clear hb
                    obtain ⟨hc27, h⟩ := chk_some h
                    obtain ⟨hc28, h⟩ := chk_some h
                    obtain ⟨hc29, h⟩ := chk_some h
                    obtain ⟨hc30, h⟩ := chk_some h
                    refine awp_le (Le.trans (le_take (r := 77) (b := 70077) (k := 60077) eI64 (0 : Int) l22 (i18).toNat 3 rfl rfl rfl rfl (inB_lit hc27) (by kernel_rfl) (.row (by kernel_rfl) (.row (by kernel_rfl) (.here .nil)))) (le_eq (st' := (⟨[(0, (Q185 a_succ)), (2, (.ptr 2 0)), (4, (Q187 a_succ)), (7, (.ptr 7 0)), (8, (.int .i64 i18)), (9, (.int .i64 i21)), (94, (.bool x26))], [(2, .row 26 Q183), (7, .row 26 [(Q185 a_succ), (.vsl 77 l22.length)]), (77, .arr 1 31 l22.length (rowF 1 eI64 (0 : Int) l22 (famTag 70077 (i18).toNat 60077))), (60077, .tok 1 3 ((l22.getD (i18).toNat []).length))], [(70077, ⟨1, 3, holeM l22 (i18).toNat⟩)]⟩ : St)) (by kernel_rfl))) ?_
                    refine rg [] [(102, (AV.list 1 eI64 (0 : Int) (l22.getD (i18).toNat []) (.own 60077))), (104, (AV.list 1 eI64 (0 : Int) ([i21] : List (Int)) .exact)), (105, (AV.list 1 eI64 (0 : Int) (Q190 l22 i18 i21) (.own 60077)))] (⟨(Q195 a_succ i18 i21), [(2, .row 26 Q183), (7, .row 26 [(Q185 a_succ), (.vsl 77 l22.length)]), (77, .arr 1 31 l22.length (fun i_ => AV.eraseAll (fun n_ => memB n_ [2, 7, 77, 60077, 70077]) ((putF (rowF 1 eI64 (0 : Int) l22 (famTag 70077 (i18).toNat 60077)) (i18).toNat 0 [(AV.list 1 eI64 (0 : Int) (Q190 l22 i18 i21) (.own 60077))]) i_))), (60077, .tok 1 3 ((Q190 l22 i18 i21).length))], [(70077, ⟨1, 3, holeM l22 (i18).toNat⟩)]⟩ : St) [(InB i18 l22.length), (l22.length = l22.length), (AVle (((rowF 1 eI64 (0 : Int) l22 (famTag 70077 (i18).toNat 60077)) (i18).toNat).getD 0 .any) (AV.list 1 eI64 (0 : Int) (l22.getD (i18).toNat []) (.own 60077))), (AVle (.slice 1 1 (fun i => ([[(.int .i64 i21)]] : List (List AV)).getD i []) .exact) (AV.list 1 eI64 (0 : Int) ([i21] : List (Int)) .exact)), ((l22.getD (i18).toNat []).length = (l22.getD (i18).toNat []).length), ((l22.getD (i18).toNat []).length + ([i21] : List (Int)).length ≤ room), (AVle (.slice 1 ((l22.getD (i18).toNat []).length + ([i21] : List (Int)).length) (appF (l22.getD (i18).toNat []).length (fun i => eI64 ((l22.getD (i18).toNat []).getD i (0 : Int))) (fun i => eI64 (([i21] : List (Int)).getD i (0 : Int)))) (.own 60077)) (AV.list 1 eI64 (0 : Int) (Q190 l22 i18 i21) (.own 60077))), ((l22.getD (i18).toNat []).length + ([i21] : List (Int)).length = (Q190 l22 i18 i21).length), (InB i18 l22.length), (l22.length = l22.length)] hn mix (no_hand hΓ) (by kernel_rfl) ⟨hc28, rfl, av_famtag, (av_lit rfl (fun i hi => map_get (e := eI64) (d := (0 : Int)) ([i21] : List (Int)) i hi)), rfl, hc29, av_app, (len_app _ _), hc30, rfl, trivial⟩ ?_
                    refine block_normal ?_
                    obtain rfl := Option.some.inj h
                    exact ⟨rfl, Le.trans (Le.trans (Le.trans (le_put (r := 77) (b := 70077) (k := 60077) eI64 (0 : Int) l22 (i18).toNat (Q190 l22 i18 i21) 3 rfl (putF_fam (inB_lit hc27) rfl rfl) rfl rfl rfl rfl (inB_lit hc27) (by kernel_rfl) (.row (by kernel_rfl) (.row (by kernel_rfl) (.here (.tok .nil)))) (by rw [hΓ]; rfl)) (le_eq (st' := (⟨(Q195 a_succ i18 i21), [(2, .row 26 Q183), (7, .row 26 [(Q185 a_succ), (.vsl 77 l22.length)]), (77, .arr 1 31 l22.length (rowF 1 eI64 (0 : Int) (l22.set (i18).toNat (Q190 l22 i18 i21)) (Tag.fam 70077)))], [(70077, ⟨1, 3, famM (l22.set (i18).toNat (Q190 l22 i18 i21))⟩)]⟩ : St)) (by kernel_rfl))) (le_eq (congrArg (fun k_ : Nat => (⟨(Q195 a_succ i18 i21), [(2, .row 26 Q183), (7, .row 26 [(Q185 a_succ), (.vsl 77 k_)]), (77, .arr 1 31 k_ (rowF 1 eI64 (0 : Int) (l22.set (i18).toNat (Q190 l22 i18 i21)) (Tag.fam 70077)))], [(70077, ⟨1, 3, famM (l22.set (i18).toNat (Q190 l22 i18 i21))⟩)]⟩ : St)) (show l22.length = (l22.set (i18).toNat (Q190 l22 i18 i21)).length from (List.length_set ..).symm)))) (Le.refl _ _)⟩
                  · replace h := cond_f hb h
                    clear hb
                    refine awp_skip ?_
                    refine block_normal ?_
                    obtain rfl := Option.some.inj h
                    exact ⟨rfl, le_restrict_eq [0, 2, 4, 7, 8, 9] [2, 7, 77, 70077] (by kernel_rfl) (no_hand hΓ)⟩
                · clear hx31
                  rintro e st' ⟨rfl, hl32⟩
                  refine then_normal ?_
                  refine awp_le hl32 ?_
                  refine rg0 (⟨[(0, (Q185 a_succ)), (2, (.ptr 2 0)), (4, (Q187 a_succ)), (7, (.ptr 7 0)), (8, (.int .i64 i18)), (9, (.int .i64 (w64 (i21 + (1 : Int)))))], [(2, .row 26 Q183), (7, .row 26 [(Q185 a_succ), (.vsl 77 x31.length)]), (77, .arr 1 31 x31.length (rowF 1 eI64 (0 : Int) x31 (Tag.fam 70077)))], [(70077, ⟨1, 3, famM x31⟩)]⟩ : St) hn mix (no_hand hΓ) (by kernel_rfl) ?_
                  obtain rfl := Option.some.inj h
                  exact ⟨rfl, Le.refl _ _⟩
              · replace h := cond_f hb h
                clear hb
                refine awp_exit ?_
                refine then_exit ?_
                obtain rfl := Option.some.inj h
                exact ⟨(by intro hh; cases hh), rfl, le_restrict_eq [0, 2, 4, 7, 8] [2, 7, 77, 70077] (by kernel_rfl) (no_hand hΓ)⟩
            · clear hx33
              rintro e st' ⟨rfl, hl34⟩
              refine block_here ?_
              refine block_normal ?_
              refine then_normal ?_
              refine awp_le hl34 ?_
              refine rg0 (⟨[(0, (Q185 a_succ)), (2, (.ptr 2 0)), (4, (Q187 a_succ)), (7, (.ptr 7 0)), (8, (.int .i64 (w64 (i18 + (1 : Int)))))], [(2, .row 26 Q183), (7, .row 26 [(Q185 a_succ), (.vsl 77 x33.length)]), (77, .arr 1 31 x33.length (rowF 1 eI64 (0 : Int) x33 (Tag.fam 70077)))], [(70077, ⟨1, 3, famM x33⟩)]⟩ : St) hn mix (no_hand hΓ) (by kernel_rfl) ?_
              obtain rfl := Option.some.inj h
              exact ⟨rfl, Le.refl _ _⟩
          · replace h := cond_f hb h
            clear hb
            refine awp_exit ?_
            refine then_exit ?_
            obtain rfl := Option.some.inj h
            exact ⟨(by intro hh; cases hh), rfl, le_restrict_eq [2, 7] [2, 7, 77, 70077] (by kernel_rfl) (no_hand hΓ)⟩
        · clear hx35
          rintro e st' ⟨rfl, hl36⟩
          refine block_here ?_
          refine then_normal ?_
          refine awp_le hl36 ?_
          refine rgs0 (⟨[(2, (.ptr 2 0)), (3, (.int .i64 (0 : Int)))], [(2, .row 26 [(Q185 a_succ), (.vsl 77 x35.length)]), (77, .arr 1 31 x35.length (rowF 1 eI64 (0 : Int) x35 (Tag.fam 70077)))], [(70077, ⟨1, 3, famM x35⟩)]⟩ : St) hn mix (no_hand hΓ) (by kernel_rfl) ?_
          refine awp_le (Le.trans (le_freeze (nm := 77) (sz := 1) (n := x35.length) (e := 31) (f := (rowF 1 eI64 (0 : Int) x35 (Tag.fam 70077))) (g := (fun i => eLI64 (x35.getD i []))) rfl ⟨rfl, trivial⟩ (fun _ _ => rfl) (by rw [hΓ]; rfl)) (le_restrict_eq (st' := (⟨[(2, (.ptr 2 0)), (3, (.int .i64 (0 : Int)))], [(2, .row 26 [(Q185 a_succ), (AV.list 1 eLI64 [] x35 (.own 77))]), (77, .tok 1 31 x35.length)], []⟩ : St)) [2, 3] [2, 77] (by kernel_rfl) (no_hand hΓ))) ?_
          refine awp_ret ?_
          obtain rfl := Option.some.inj h
          exact ⟨.inl rfl, [], by kernel_rfl⟩
      · rintro e st' ⟨rfl, hk⟩
        refine block_ret ?_
        refine then_ret ?_
        obtain rfl := Option.some.inj h
        exact hk

noncomputable def m_lockstepref06_Same_L1 (a_a : TGraph) (a_b : TGraph) : Int → Option (LR Int (Unit ⊕ Bool)) :=
  fun (i1 : Int) => (bif (decide ((i1 : Int) < (a_a.Succ.length : Int))) then (chk (InB i1 a_a.Succ.length) (chk (InB i1 a_b.Succ.length) ((m_lockstepref02_Ints (a_a.Succ.getD (i1).toNat []) (a_b.Succ.getD (i1).toNat [])).bind fun x4 => (bif (!x4) then (some (.done (.inr false))) else (some (.next (w64 (i1 + (1 : Int))))))))) else (some (.done (.inl ()))))
noncomputable def m_lockstepref06_Same_L2 (a_a : TGraph) (a_b : TGraph) : Int → Option (LR Int (Unit ⊕ Bool)) :=
  fun (i7 : Int) => (bif (decide ((i7 : Int) < (a_a.Pred.length : Int))) then (chk (InB i7 a_a.Pred.length) (chk (InB i7 a_b.Pred.length) ((m_lockstepref02_Ints (a_a.Pred.getD (i7).toNat []) (a_b.Pred.getD (i7).toNat [])).bind fun x10 => (bif (!x10) then (some (.done (.inr false))) else (some (.next (w64 (i7 + (1 : Int))))))))) else (some (.done (.inl ()))))
noncomputable def Q206 (a_a : TGraph) (a_b : TGraph) := (((a_a.Succ.length : Int) : Int) != (a_b.Succ.length : Int))
noncomputable def Q207 (a_a : TGraph) (a_b : TGraph) := ((Q206 a_a a_b) == false)
noncomputable def Q205 (a_a : TGraph) (a_b : TGraph) : List (Nat × Own) := [(2, .row 26 [(AV.list 1 eLI64 [] a_a.Succ .none), (AV.list 1 eLI64 [] a_a.Pred .none)]), (3, .row 26 [(AV.list 1 eLI64 [] a_b.Succ .none), (AV.list 1 eLI64 [] a_b.Pred .none)])]
noncomputable def m_lockstepref06_Same (a_a : TGraph) (a_b : TGraph) : Option Bool :=
  (bif (bif (((a_a.Succ.length : Int) : Int) != (a_b.Succ.length : Int)) then true else (((a_a.Pred.length : Int) : Int) != (a_b.Pred.length : Int))) then (some false) else ((loopO (S := Int) (X := (Unit ⊕ Bool)) (m_lockstepref06_Same_L1 a_a a_b) (0 : Int)).bind (fun x5 => (match x5 with | (.inl _) => ((loopO (S := Int) (X := (Unit ⊕ Bool)) (m_lockstepref06_Same_L2 a_a a_b) (0 : Int)).bind (fun x11 => (match x11 with | (.inl _) => (some true) | (.inr r13) => (some r13)))) | (.inr r14) => (some r14)))))
theorem ok_lockstepref06_Same (a_a : TGraph) (a_b : TGraph) (r : Bool) (h : m_lockstepref06_Same a_a a_b = some r) : Spec Try.prog 41 [(.agg (eTGraph a_a)), (.agg (eTGraph a_b))] [] (.bool r) [] := by
  refine spec_of_awp (fn := Try.f41) Try.func41 rfl rfl (by kernel_rfl) (fun Γ hn hΓ => ?_)
  have hn : Γ.n = 61 := hn
  unfold m_lockstepref06_Same at h
  refine rgs0 (⟨[(2, (.ptr 2 0)), (3, (.ptr 3 0))], (Q205 a_a a_b), []⟩ : St) hn mix (no_hand hΓ) (by kernel_rfl) ?_
  refine awp_seq ?_
  refine rgs [] [] (⟨[(2, (.ptr 2 0)), (3, (.ptr 3 0)), (22, (.bool (bif (Q206 a_a a_b) then true else (((a_a.Pred.length : Int) : Int) != (a_b.Pred.length : Int)))))], (Q205 a_a a_b), []⟩ : St) [((Q207 a_a a_b) = true → (Q207 a_a a_b) = true), ((Q207 a_a a_b) = true → (Q207 a_a a_b) = true), ((Q207 a_a a_b) = true → (Q207 a_a a_b) = true), ((Q207 a_a a_b) = true → (Q207 a_a a_b) = true), ((Q207 a_a a_b) = true → (Q207 a_a a_b) = true), ((Q207 a_a a_b) = true → (Q207 a_a a_b) = true), ((Q206 a_a a_b) = false → (Q207 a_a a_b) = true)] hn mix (no_hand hΓ) (by kernel_rfl) ⟨(fun hg => hg), (fun hg => hg), (fun hg => hg), (fun hg => hg), (fun hg => hg), (fun hg => hg), gF, trivial⟩ ?_
  refine awp_cond (bif (Q206 a_a a_b) then true else (((a_a.Pred.length : Int) : Int) != (a_b.Pred.length : Int))) (by kernel_rfl) (fun hb => ?_) (fun hb => ?_)
  · replace h := cond_t hb h
    clear hb
    refine rgs0 (⟨[(4, (.bool false))], [], []⟩ : St) hn mix (no_hand hΓ) (by kernel_rfl) ?_
    refine awp_ret ?_
    refine then_ret ?_
    obtain rfl := Option.some.inj h
    exact ⟨.inl rfl, [], by kernel_rfl⟩
  · replace h := cond_f hb h
    clear hb
    refine awp_skip ?_
    refine then_normal ?_
    refine awp_seq ?_
    refine rgs0 (⟨[(2, (.ptr 2 0)), (3, (.ptr 3 0)), (5, (.int .i64 (0 : Int)))], (Q205 a_a a_b), []⟩ : St) hn mix (no_hand hΓ) (by kernel_rfl) ?_
    refine awp_block ?_
    refine awp_le (st' := (fun (i1 : Int) => (⟨[(2, (.ptr 2 0)), (3, (.ptr 3 0)), (5, (.int .i64 i1))], (Q205 a_a a_b), []⟩ : St)) (0 : Int)) (Le.refl _ _) ?_
    obtain ⟨x5, hx5, h⟩ := bind_some h
    refine awp_loop (fun (i1 : Int) => (⟨[(2, (.ptr 2 0)), (3, (.ptr 3 0)), (5, (.int .i64 i1))], (Q205 a_a a_b), []⟩ : St)) _ (fun (x_ : (Unit ⊕ Bool)) (e : Exit) (st : St) => match x_ with | (.inl _) => e = (.exit 0) ∧ Le Γ st (⟨[(2, (.ptr 2 0)), (3, (.ptr 3 0))], (Q205 a_a a_b), []⟩ : St) | (.inr r_) => e = .ret ∧ retK Try.prog Try.f41.results.toList [] (.bool r_) [] e st) ?_ hx5 ?_
    · intro i1 y h
      unfold m_lockstepref06_Same_L1 at h
      refine awp_seq ?_
      refine rgs0 (⟨[(2, (.ptr 2 0)), (3, (.ptr 3 0)), (5, (.int .i64 i1)), (27, (.bool (decide ((i1 : Int) < (a_a.Succ.length : Int)))))], (Q205 a_a a_b), []⟩ : St) hn mix (no_hand hΓ) (by kernel_rfl) ?_
      refine awp_cond (decide ((i1 : Int) < (a_a.Succ.length : Int))) (by kernel_rfl) (fun hb => ?_) (fun hb => ?_)
      · replace h := cond_t hb h
        clear hb
        refine awp_skip ?_
        refine then_normal ?_
        refine awp_seq ?_
        refine awp_block ?_
        obtain ⟨hc2, h⟩ := chk_some h
        obtain ⟨hc3, h⟩ := chk_some h
        obtain ⟨x4, hx4, h⟩ := bind_some h
        refine rgs [⟨[], [], (.bool x4), []⟩] [] (⟨[(2, (.ptr 2 0)), (3, (.ptr 3 0)), (5, (.int .i64 i1)), (41, (.bool (!x4)))], (Q205 a_a a_b), []⟩ : St) [(InB i1 a_a.Succ.length), (InB i1 a_b.Succ.length), (Spec Try.prog 12 [(AV.list 1 eI64 (0 : Int) (a_a.Succ.getD (i1).toNat []) .none), (AV.list 1 eI64 (0 : Int) (a_b.Succ.getD (i1).toNat []) .none)] [] (.bool x4) [])] hn mix (no_hand hΓ) (by kernel_rfl) ⟨hc2, hc3, (ok_lockstepref02_Ints (a_a.Succ.getD (i1).toNat []) (a_b.Succ.getD (i1).toNat []) x4 hx4), trivial⟩ ?_
        refine awp_cond (!x4) (by kernel_rfl) (fun hb => ?_) (fun hb => ?_)
        · replace h := cond_t hb h
          clear hb
          refine rgs0 (⟨[(4, (.bool false))], [], []⟩ : St) hn mix (no_hand hΓ) (by kernel_rfl) ?_
          refine awp_ret ?_
          refine block_ret ?_
          refine then_ret ?_
          obtain rfl := Option.some.inj h
          exact ⟨(by intro hh; cases hh), rfl, ⟨.inl rfl, [], by kernel_rfl⟩⟩
        · replace h := cond_f hb h
          clear hb
          refine awp_skip ?_
          refine block_normal ?_
          refine then_normal ?_
          refine rg0 (⟨[(2, (.ptr 2 0)), (3, (.ptr 3 0)), (5, (.int .i64 (w64 (i1 + (1 : Int)))))], (Q205 a_a a_b), []⟩ : St) hn mix (no_hand hΓ) (by kernel_rfl) ?_
          obtain rfl := Option.some.inj h
          exact ⟨rfl, Le.refl _ _⟩
      · replace h := cond_f hb h
        clear hb
        refine awp_exit ?_
        refine then_exit ?_
        obtain rfl := Option.some.inj h
        exact ⟨(by intro hh; cases hh), rfl, le_restrict_eq [2, 3] [2, 3] (by kernel_rfl) (no_hand hΓ)⟩
    · clear hx5
      rcases x5 with _ | r14
      · rintro e st' ⟨rfl, hl6⟩
        refine block_here ?_
        refine then_normal ?_
        refine awp_le hl6 ?_
        refine awp_seq ?_
        refine rgs0 (⟨[(2, (.ptr 2 0)), (3, (.ptr 3 0)), (6, (.int .i64 (0 : Int)))], (Q205 a_a a_b), []⟩ : St) hn mix (no_hand hΓ) (by kernel_rfl) ?_
        refine awp_block ?_
        refine awp_le (st' := (fun (i7 : Int) => (⟨[(2, (.ptr 2 0)), (3, (.ptr 3 0)), (6, (.int .i64 i7))], (Q205 a_a a_b), []⟩ : St)) (0 : Int)) (Le.refl _ _) ?_
        obtain ⟨x11, hx11, h⟩ := bind_some h
        refine awp_loop (fun (i7 : Int) => (⟨[(2, (.ptr 2 0)), (3, (.ptr 3 0)), (6, (.int .i64 i7))], (Q205 a_a a_b), []⟩ : St)) _ (fun (x_ : (Unit ⊕ Bool)) (e : Exit) (st : St) => match x_ with | (.inl _) => e = (.exit 2) ∧ Le Γ st (⟨[], [], []⟩ : St) | (.inr r_) => e = .ret ∧ retK Try.prog Try.f41.results.toList [] (.bool r_) [] e st) ?_ hx11 ?_
        · intro i7 y h
          unfold m_lockstepref06_Same_L2 at h
          refine awp_seq ?_
          refine rgs0 (⟨[(2, (.ptr 2 0)), (3, (.ptr 3 0)), (6, (.int .i64 i7)), (46, (.bool (decide ((i7 : Int) < (a_a.Pred.length : Int)))))], (Q205 a_a a_b), []⟩ : St) hn mix (no_hand hΓ) (by kernel_rfl) ?_
          refine awp_cond (decide ((i7 : Int) < (a_a.Pred.length : Int))) (by kernel_rfl) (fun hb => ?_) (fun hb => ?_)
          · replace h := cond_t hb h
            clear hb
            refine awp_skip ?_
            refine then_normal ?_
            refine awp_seq ?_
            refine awp_block ?_
            obtain ⟨hc8, h⟩ := chk_some h
            obtain ⟨hc9, h⟩ := chk_some h
            obtain ⟨x10, hx10, h⟩ := bind_some h
            refine rgs [⟨[], [], (.bool x10), []⟩] [] (⟨[(2, (.ptr 2 0)), (3, (.ptr 3 0)), (6, (.int .i64 i7)), (60, (.bool (!x10)))], (Q205 a_a a_b), []⟩ : St) [(InB i7 a_a.Pred.length), (InB i7 a_b.Pred.length), (Spec Try.prog 12 [(AV.list 1 eI64 (0 : Int) (a_a.Pred.getD (i7).toNat []) .none), (AV.list 1 eI64 (0 : Int) (a_b.Pred.getD (i7).toNat []) .none)] [] (.bool x10) [])] hn mix (no_hand hΓ) (by kernel_rfl) ⟨hc8, hc9, (ok_lockstepref02_Ints (a_a.Pred.getD (i7).toNat []) (a_b.Pred.getD (i7).toNat []) x10 hx10), trivial⟩ ?_
            refine awp_cond (!x10) (by kernel_rfl) (fun hb => ?_) (fun hb => ?_)
            · replace h := cond_t hb h
              clear hb
              refine rgs0 (⟨[(4, (.bool false))], [], []⟩ : St) hn mix (no_hand hΓ) (by kernel_rfl) ?_
              refine awp_ret ?_
              refine block_ret ?_
              refine then_ret ?_
              obtain rfl := Option.some.inj h
              exact ⟨(by intro hh; cases hh), rfl, ⟨.inl rfl, [], by kernel_rfl⟩⟩
            · replace h := cond_f hb h
              clear hb
              refine awp_skip ?_
              refine block_normal ?_
              refine then_normal ?_
              refine rg0 (⟨[(2, (.ptr 2 0)), (3, (.ptr 3 0)), (6, (.int .i64 (w64 (i7 + (1 : Int)))))], (Q205 a_a a_b), []⟩ : St) hn mix (no_hand hΓ) (by kernel_rfl) ?_
              obtain rfl := Option.some.inj h
              exact ⟨rfl, Le.refl _ _⟩
          · replace h := cond_f hb h
            clear hb
            refine awp_exit ?_
            refine then_exit ?_
            obtain rfl := Option.some.inj h
            exact ⟨(by intro hh; cases hh), rfl, le_restrict_eq [] [] (by kernel_rfl) (no_hand hΓ)⟩
        · clear hx11
          rcases x11 with _ | r13
          · rintro e st' ⟨rfl, hl12⟩
            refine block_here ?_
            refine then_normal ?_
            refine awp_le hl12 ?_
            refine rgs0 (⟨[(4, (.bool true))], [], []⟩ : St) hn mix (no_hand hΓ) (by kernel_rfl) ?_
            refine awp_ret ?_
            obtain rfl := Option.some.inj h
            exact ⟨.inl rfl, [], by kernel_rfl⟩
          · rintro e st' ⟨rfl, hk⟩
            refine block_ret ?_
            refine then_ret ?_
            obtain rfl := Option.some.inj h
            exact hk
      · rintro e st' ⟨rfl, hk⟩
        refine block_ret ?_
        refine then_ret ?_
        obtain rfl := Option.some.inj h
        exact hk

noncomputable def Q208 (x1 : (TGraph × Int)) := (((x1.2 : Int) == (0 : Int)) == true)
noncomputable def m_lockstepref06_May (a_g : TGraph) : Option Bool :=
  ((m_lockstepref06_Make a_g.Succ).bind fun x1 => ((bif (((x1.2 : Int) == (0 : Int)) == true) then m_lockstepref06_Same x1.1 a_g else some false).bind fun x2 => (some (bif ((x1.2 : Int) == (0 : Int)) then x2 else false))))
theorem ok_lockstepref06_May (a_g : TGraph) (r : Bool) (h : m_lockstepref06_May a_g = some r) : Spec Try.prog 29 [(.agg (eTGraph a_g))] [] (.bool r) [] := by
  refine spec_of_awp (fn := Try.f29) Try.func29 rfl rfl (by kernel_rfl) (fun Γ hn hΓ => ?_)
  have hn : Γ.n = 18 := hn
  unfold m_lockstepref06_May at h
  refine rgs0 (⟨[(1, (.ptr 1 0))], [(1, .row 26 [(AV.list 1 eLI64 [] a_g.Succ .none), (AV.list 1 eLI64 [] a_g.Pred .none)])], []⟩ : St) hn mix (no_hand hΓ) (by kernel_rfl) ?_
  obtain ⟨x1, hx1, h⟩ := bind_some h
  refine rgs [⟨[], [], (.tuple [(.agg (eTGraph x1.1)), (.int .i64 x1.2)]), []⟩] [] (⟨[(1, (.ptr 1 0)), (3, (.ptr 3 0)), (4, (.int .i64 x1.2))], [(1, .row 26 [(AV.list 1 eLI64 [] a_g.Succ .none), (AV.list 1 eLI64 [] a_g.Pred .none)]), (3, .row 26 [(AV.list 1 eLI64 [] x1.1.Succ .none), (AV.list 1 eLI64 [] x1.1.Pred .none)])], []⟩ : St) [(Spec Try.prog 40 [(AV.list 1 eLI64 [] a_g.Succ .none)] [] (.tuple [(.agg (eTGraph x1.1)), (.int .i64 x1.2)]) [])] hn mix (no_hand hΓ) (by kernel_rfl) ⟨(ok_lockstepref06_Make a_g.Succ x1 hx1), trivial⟩ ?_
  obtain ⟨x2, hx2, h⟩ := bind_some h
  refine rgs [⟨[], [], (.bool x2), []⟩] [] (⟨[(2, (.bool (bif ((x1.2 : Int) == (0 : Int)) then x2 else false)))], [], []⟩ : St) [((Q208 x1) = true → (Q208 x1) = true), ((Q208 x1) = true → (Q208 x1) = true), ((Q208 x1) = true → (Spec Try.prog 41 [(.agg (eTGraph x1.1)), (.agg (eTGraph a_g))] [] (.bool x2) [])), (((x1.2 : Int) == (0 : Int)) = true → (Q208 x1) = true)] hn mix (no_hand hΓ) (by kernel_rfl) ⟨(fun hg => hg), (fun hg => hg), (fun hg => (ok_lockstepref06_Same x1.1 a_g x2 (cond_t hg hx2))), gT, trivial⟩ ?_
  refine awp_ret ?_
  obtain rfl := Option.some.inj h
  exact ⟨.inl rfl, [], by kernel_rfl⟩

noncomputable def m_lockstepref06_Reach_L1 (a_g : TGraph) (a_p2 : Int) (i6 : Int) : (Int × List (Bool)) → Option (LR (Int × List (Bool)) (List (Bool))) :=
  fun ((i9, l10) : (Int × List (Bool))) => (chk (InB i6 l10.length) (chk (((l10.getD (i6).toNat false) == true) = true → (InB i6 a_g.Succ.length)) (bif (bif (l10.getD (i6).toNat false) then (decide ((i9 : Int) < ((a_g.Succ.getD (i6).toNat []).length : Int))) else false) then (Option.bind (α := List (Bool)) (chk (InB i6 a_g.Succ.length) (chk (InB i9 (a_g.Succ.getD (i6).toNat []).length) (bif ((((a_g.Succ.getD (i6).toNat []).getD (i9).toNat (0 : Int)) : Int) != a_p2) then (chk (InB i6 a_g.Succ.length) (chk (InB i9 (a_g.Succ.getD (i6).toNat []).length) (chk (InB ((a_g.Succ.getD (i6).toNat []).getD (i9).toNat (0 : Int)) l10.length) (some ((l10.set (((a_g.Succ.getD (i6).toNat []).getD (i9).toNat (0 : Int))).toNat true)))))) else (some (l10))))) (fun x20 => ((some (.next ((w64 (i9 + (1 : Int))), x20)))))) else (some (.done l10)))))
noncomputable def m_lockstepref06_Reach_L2 (a_g : TGraph) (a_p2 : Int) : (Int × List (Bool)) → Option (LR (Int × List (Bool)) (List (Bool))) :=
  fun ((i6, l7) : (Int × List (Bool))) => (bif (decide ((i6 : Int) < (l7.length : Int))) then ((loopO (S := (Int × List (Bool))) (X := List (Bool)) (m_lockstepref06_Reach_L1 a_g a_p2 i6) ((0 : Int), l7)).bind (fun x22 => ((some (.next ((w64 (i6 + (1 : Int))), x22)))))) else (some (.done l7)))
noncomputable def m_lockstepref06_Reach_L3 (a_g : TGraph) (a_p2 : Int) : (Int × List (Bool)) → Option (LR (Int × List (Bool)) (List (Bool))) :=
  fun ((i3, l4) : (Int × List (Bool))) => (bif (decide ((i3 : Int) < (l4.length : Int))) then ((loopO (S := (Int × List (Bool))) (X := List (Bool)) (m_lockstepref06_Reach_L2 a_g a_p2) ((0 : Int), l4)).bind (fun x24 => ((some (.next ((w64 (i3 + (1 : Int))), x24)))))) else (some (.done l4)))
noncomputable def Q217 (a_p2 : Int) : AV := (.int .i64 a_p2)
noncomputable def Q220 (a_g : TGraph) := (a_g.Succ.length : Int)
noncomputable def Q210 (a_g : TGraph) := (List.replicate ((Q220 a_g)).toNat false)
noncomputable def Q219 (a_g : TGraph) (a_p1 : Int) := ((Q210 a_g).set (a_p1).toNat true)
noncomputable def Q211 (l10 : List (Bool)) (i6 : Int) := ((l10.getD (i6).toNat false) == true)
noncomputable def Q218 (a_g : TGraph) := (fun i => eB ((Q210 a_g).getD i false))
noncomputable def Q213 (a_g : TGraph) (i6 : Int) (i9 : Int) := ((a_g.Succ.getD (i6).toNat []).getD (i9).toNat (0 : Int))
noncomputable def Q209 (a_g : TGraph) : List AV := [(AV.list 1 eLI64 [] a_g.Succ .none), (AV.list 1 eLI64 [] a_g.Pred .none)]
noncomputable def Q215 (a_g : TGraph) (l4 : List (Bool)) : List (Nat × Own) := [(3, .row 26 (Q209 a_g)), (14, .arr 1 4 l4.length (fun i => eB (l4.getD i false)))]
noncomputable def Q216 (a_g : TGraph) (l7 : List (Bool)) : List (Nat × Own) := [(3, .row 26 (Q209 a_g)), (14, .arr 1 4 l7.length (fun i => eB (l7.getD i false)))]
noncomputable def Q214 (a_g : TGraph) (l10 : List (Bool)) : List (Nat × Own) := [(3, .row 26 (Q209 a_g)), (14, .arr 1 4 l10.length (fun i => eB (l10.getD i false)))]
noncomputable def Q212 (a_p2 : Int) (l10 : List (Bool)) (i3 : Int) (i6 : Int) (i9 : Int) : List (Nat × AV) := [(2, (Q217 a_p2)), (3, (.ptr 3 0)), (7, (.vsl 14 l10.length)), (8, (.int .i64 i3)), (9, (.int .i64 i6)), (10, (.int .i64 i9))]
noncomputable def m_lockstepref06_Reach (a_g : TGraph) (a_p1 : Int) (a_p2 : Int) : Option (List (Bool)) :=
  (chk (0 ≤ (a_g.Succ.length : Int) ∧ (a_g.Succ.length : Int) ≤ (a_g.Succ.length : Int) ∧ (a_g.Succ.length : Int) ≤ (room : Int)) (bif ((a_p1 : Int) == a_p2) then (some (List.replicate ((a_g.Succ.length : Int)).toNat false)) else (chk (InB a_p1 (List.replicate ((a_g.Succ.length : Int)).toNat false).length) ((loopO (S := (Int × List (Bool))) (X := List (Bool)) (m_lockstepref06_Reach_L3 a_g a_p2) ((0 : Int), ((List.replicate ((a_g.Succ.length : Int)).toNat false).set (a_p1).toNat true))).bind (fun x26 => ((some x26)))))))
theorem ok_lockstepref06_Reach (a_g : TGraph) (a_p1 : Int) (a_p2 : Int) (r : List (Bool)) (h : m_lockstepref06_Reach a_g a_p1 a_p2 = some r) : Spec Try.prog 22 [(.agg (eTGraph a_g)), (.int .i64 a_p1), (.int .i64 a_p2)] [] (AV.list 1 eB false r (.own 20000)) [(20000, .tok 1 4 r.length)] := by
  refine spec_of_awp (fn := Try.f22) Try.func22 rfl rfl (by kernel_rfl) (fun Γ hn hΓ => ?_)
  have hn : Γ.n = 71 := hn
  unfold m_lockstepref06_Reach at h
  refine rgs [] [(6, (AV.list 1 eB false ([] : List Bool) .exact))] (⟨[(1, (.int .i64 a_p1)), (2, (Q217 a_p2)), (3, (.ptr 3 0))], [(3, .row 26 (Q209 a_g))], []⟩ : St) [(AVle (.slice 0 0 (fun _ => []) .exact) (AV.list 1 eB false ([] : List Bool) .exact))] hn mix (no_hand hΓ) (by kernel_rfl) ⟨av_nil, trivial⟩ ?_
  obtain ⟨hc1, h⟩ := chk_some h
  refine rgs [] [] (⟨[(1, (.int .i64 a_p1)), (2, (Q217 a_p2)), (3, (.ptr 3 0)), (7, (.vsl 14 ((Q220 a_g)).toNat))], [(3, .row 26 (Q209 a_g)), (14, .arr 1 4 (((Q220 a_g)).toNat) (fun i_ => AV.eraseAll (fun n_ => memB n_ [3, 14]) ((fun _ => [(.bool false)]) i_)))], []⟩ : St) [(0 ≤ (Q220 a_g) ∧ (Q220 a_g) ≤ (Q220 a_g) ∧ (Q220 a_g) ≤ (room : Int))] hn mix (no_hand hΓ) (by kernel_rfl) ⟨hc1, trivial⟩ ?_
  refine awp_le (Le.trans (le_of (st' := (⟨[(1, (.int .i64 a_p1)), (2, (Q217 a_p2)), (3, (.ptr 3 0)), (7, (.vsl 14 ((Q220 a_g)).toNat))], [(3, .row 26 (Q209 a_g)), (14, .arr 1 4 (((Q220 a_g)).toNat) (Q218 a_g))], []⟩ : St)) (TmpsLe.refl _) (.same (.arr (fun k hk => make_le (e := eB) (d := false) (.cons (AVle.refl _) .nil) _ k (repl_lt hk)) .nil))) (le_eq (congrArg (fun k_ : Nat => (⟨[(1, (.int .i64 a_p1)), (2, (Q217 a_p2)), (3, (.ptr 3 0)), (7, (.vsl 14 k_))], [(3, .row 26 (Q209 a_g)), (14, .arr 1 4 k_ (Q218 a_g))], []⟩ : St)) (show ((Q220 a_g)).toNat = (Q210 a_g).length from (List.length_replicate ..).symm)))) ?_
  refine awp_seq ?_
  refine rgs0 (⟨[(1, (.int .i64 a_p1)), (2, (Q217 a_p2)), (3, (.ptr 3 0)), (7, (.vsl 14 (Q210 a_g).length)), (17, (.bool ((a_p1 : Int) == a_p2)))], [(3, .row 26 (Q209 a_g)), (14, .arr 1 4 ((Q210 a_g).length) (Q218 a_g))], []⟩ : St) hn mix (no_hand hΓ) (by kernel_rfl) ?_
  refine awp_cond ((a_p1 : Int) == a_p2) (by kernel_rfl) (fun hb => ?_) (fun hb => ?_)
  · replace h := cond_t hb h
    clear hb
    refine rgs0 (⟨[(6, (.vsl 14 (Q210 a_g).length))], [(14, .arr 1 4 ((Q210 a_g).length) (Q218 a_g))], []⟩ : St) hn mix (no_hand hΓ) (by kernel_rfl) ?_
    refine awp_le (Le.trans (le_freeze (nm := 14) (sz := 1) (n := ((Q210 a_g).length)) (e := 4) (f := (Q218 a_g)) (g := (Q218 a_g)) rfl ⟨rfl, trivial⟩ (fun _ _ => rfl) (by rw [hΓ]; rfl)) (le_eq (st' := (⟨[(6, (AV.list 1 eB false (Q210 a_g) (.own 14)))], [(14, .tok 1 4 ((Q210 a_g).length))], []⟩ : St)) (by kernel_rfl))) ?_
    refine awp_ret ?_
    refine then_ret ?_
    obtain rfl := Option.some.inj h
    exact ⟨.inl rfl, [(14, 20000)], by kernel_rfl⟩
  · replace h := cond_f hb h
    clear hb
    refine awp_skip ?_
    refine then_normal ?_
    obtain ⟨hc2, h⟩ := chk_some h
    refine rgs [] [] (⟨[(2, (Q217 a_p2)), (3, (.ptr 3 0)), (7, (.vsl 14 (Q210 a_g).length))], [(3, .row 26 (Q209 a_g)), (14, .arr 1 4 ((Q210 a_g).length) (fun i_ => AV.eraseAll (fun n_ => memB n_ [3, 14]) ((putF (Q218 a_g) (a_p1).toNat 0 [(.bool true)]) i_)))], []⟩ : St) [(InB a_p1 (Q210 a_g).length), ((Q210 a_g).length = (Q210 a_g).length)] hn mix (no_hand hΓ) (by kernel_rfl) ⟨hc2, rfl, trivial⟩ ?_
    refine awp_le (Le.trans (le_of (st' := (⟨[(2, (Q217 a_p2)), (3, (.ptr 3 0)), (7, (.vsl 14 (Q210 a_g).length))], [(3, .row 26 (Q209 a_g)), (14, .arr 1 4 ((Q210 a_g).length) (fun i => eB ((Q219 a_g a_p1).getD i false)))], []⟩ : St)) (TmpsLe.refl _) (.same (.arr (leL_of_eq (List.length_set ..).symm (fun k_ hk_ => (congrArg (AV.eraseAll (fun n_ => memB n_ [3, 14])) ((putF_set (fun _ _ => rfl) (inB_lt0 hc2) rfl) k_ hk_)).trans rfl)) .nil))) (le_eq (congrArg (fun k_ : Nat => (⟨[(2, (Q217 a_p2)), (3, (.ptr 3 0)), (7, (.vsl 14 k_))], [(3, .row 26 (Q209 a_g)), (14, .arr 1 4 k_ (fun i => eB ((Q219 a_g a_p1).getD i false)))], []⟩ : St)) (show (Q210 a_g).length = (Q219 a_g a_p1).length from (List.length_set ..).symm)))) ?_
    refine awp_seq ?_
    refine rgs0 (⟨[(2, (Q217 a_p2)), (3, (.ptr 3 0)), (7, (.vsl 14 (Q219 a_g a_p1).length)), (8, (.int .i64 (0 : Int)))], [(3, .row 26 (Q209 a_g)), (14, .arr 1 4 ((Q219 a_g a_p1).length) (fun i => eB ((Q219 a_g a_p1).getD i false)))], []⟩ : St) hn mix (no_hand hΓ) (by kernel_rfl) ?_
    refine awp_block ?_
    refine awp_le (st' := (fun ((i3, l4) : (Int × List (Bool))) => (⟨[(2, (Q217 a_p2)), (3, (.ptr 3 0)), (7, (.vsl 14 l4.length)), (8, (.int .i64 i3))], (Q215 a_g l4), []⟩ : St)) ((0 : Int), (Q219 a_g a_p1))) (Le.refl _ _) ?_
    obtain ⟨x26, hx26, h⟩ := bind_some h
    refine awp_loop (fun ((i3, l4) : (Int × List (Bool))) => (⟨[(2, (Q217 a_p2)), (3, (.ptr 3 0)), (7, (.vsl 14 l4.length)), (8, (.int .i64 i3))], (Q215 a_g l4), []⟩ : St)) _ (fun (l5 : List (Bool)) (e : Exit) (st : St) => e = (.exit 0) ∧ Le Γ st (⟨[(7, (.vsl 14 l5.length))], [(14, .arr 1 4 l5.length (fun i => eB (l5.getD i false)))], []⟩ : St)) ?_ hx26 ?_
    · rintro ⟨i3, l4⟩ y h
      unfold m_lockstepref06_Reach_L3 at h
      refine awp_seq ?_
      refine rgs0 (⟨[(2, (Q217 a_p2)), (3, (.ptr 3 0)), (7, (.vsl 14 l4.length)), (8, (.int .i64 i3)), (25, (.bool (decide ((i3 : Int) < (l4.length : Int)))))], (Q215 a_g l4), []⟩ : St) hn mix (no_hand hΓ) (by kernel_rfl) ?_
      refine awp_cond (decide ((i3 : Int) < (l4.length : Int))) (by kernel_rfl) (fun hb => ?_) (fun hb => ?_)
      · replace h := cond_t hb h
        clear hb
        refine awp_skip ?_
        refine then_normal ?_
        refine awp_seq ?_
        refine awp_block ?_
        refine rgs0 (⟨[(2, (Q217 a_p2)), (3, (.ptr 3 0)), (7, (.vsl 14 l4.length)), (8, (.int .i64 i3)), (9, (.int .i64 (0 : Int)))], (Q215 a_g l4), []⟩ : St) hn mix (no_hand hΓ) (by kernel_rfl) ?_
        refine awp_block ?_
        refine awp_le (st' := (fun ((i6, l7) : (Int × List (Bool))) => (⟨[(2, (Q217 a_p2)), (3, (.ptr 3 0)), (7, (.vsl 14 l7.length)), (8, (.int .i64 i3)), (9, (.int .i64 i6))], (Q216 a_g l7), []⟩ : St)) ((0 : Int), l4)) (Le.refl _ _) ?_
        obtain ⟨x24, hx24, h⟩ := bind_some h
        refine awp_loop (fun ((i6, l7) : (Int × List (Bool))) => (⟨[(2, (Q217 a_p2)), (3, (.ptr 3 0)), (7, (.vsl 14 l7.length)), (8, (.int .i64 i3)), (9, (.int .i64 i6))], (Q216 a_g l7), []⟩ : St)) _ (fun (l8 : List (Bool)) (e : Exit) (st : St) => e = (.exit 2) ∧ Le Γ st (⟨[(2, (Q217 a_p2)), (3, (.ptr 3 0)), (7, (.vsl 14 l8.length)), (8, (.int .i64 i3))], [(3, .row 26 (Q209 a_g)), (14, .arr 1 4 l8.length (fun i => eB (l8.getD i false)))], []⟩ : St)) ?_ hx24 ?_
        · rintro ⟨i6, l7⟩ y h
          unfold m_lockstepref06_Reach_L2 at h
          refine awp_seq ?_
          refine rgs0 (⟨[(2, (Q217 a_p2)), (3, (.ptr 3 0)), (7, (.vsl 14 l7.length)), (8, (.int .i64 i3)), (9, (.int .i64 i6)), (31, (.bool (decide ((i6 : Int) < (l7.length : Int)))))], (Q216 a_g l7), []⟩ : St) hn mix (no_hand hΓ) (by kernel_rfl) ?_
          refine awp_cond (decide ((i6 : Int) < (l7.length : Int))) (by kernel_rfl) (fun hb => ?_) (fun hb => ?_)
          · replace h := cond_t hb h
            clear hb
            refine awp_skip ?_
            refine then_normal ?_
            refine awp_seq ?_
            refine awp_block ?_
            refine rgs0 (⟨[(2, (Q217 a_p2)), (3, (.ptr 3 0)), (7, (.vsl 14 l7.length)), (8, (.int .i64 i3)), (9, (.int .i64 i6)), (10, (.int .i64 (0 : Int)))], (Q216 a_g l7), []⟩ : St) hn mix (no_hand hΓ) (by kernel_rfl) ?_
            refine awp_block ?_
            refine awp_le (st' := (fun ((i9, l10) : (Int × List (Bool))) => (⟨(Q212 a_p2 l10 i3 i6 i9), (Q214 a_g l10), []⟩ : St)) ((0 : Int), l7)) (Le.refl _ _) ?_
            obtain ⟨x22, hx22, h⟩ := bind_some h
            refine awp_loop (fun ((i9, l10) : (Int × List (Bool))) => (⟨(Q212 a_p2 l10 i3 i6 i9), (Q214 a_g l10), []⟩ : St)) _ (fun (l11 : List (Bool)) (e : Exit) (st : St) => e = (.exit 4) ∧ Le Γ st (⟨[(2, (Q217 a_p2)), (3, (.ptr 3 0)), (7, (.vsl 14 l11.length)), (8, (.int .i64 i3)), (9, (.int .i64 i6))], [(3, .row 26 (Q209 a_g)), (14, .arr 1 4 l11.length (fun i => eB (l11.getD i false)))], []⟩ : St)) ?_ hx22 ?_
            · rintro ⟨i9, l10⟩ y h
              unfold m_lockstepref06_Reach_L1 at h
              refine awp_seq ?_
              obtain ⟨hc12, h⟩ := chk_some h
              obtain ⟨hc13, h⟩ := chk_some h
              refine rgs [] [] (⟨[(2, (Q217 a_p2)), (3, (.ptr 3 0)), (7, (.vsl 14 l10.length)), (8, (.int .i64 i3)), (9, (.int .i64 i6)), (10, (.int .i64 i9)), (47, (.bool (bif (l10.getD (i6).toNat false) then (decide ((i9 : Int) < ((a_g.Succ.getD (i6).toNat []).length : Int))) else false)))], (Q214 a_g l10), []⟩ : St) [(InB i6 l10.length), (l10.length = l10.length), ((Q211 l10 i6) = true → (Q211 l10 i6) = true), ((Q211 l10 i6) = true → (Q211 l10 i6) = true), ((Q211 l10 i6) = true → (Q211 l10 i6) = true), ((Q211 l10 i6) = true → (InB i6 a_g.Succ.length)), ((Q211 l10 i6) = true → (Q211 l10 i6) = true), ((Q211 l10 i6) = true → (Q211 l10 i6) = true), ((Q211 l10 i6) = true → (Q211 l10 i6) = true), ((Q211 l10 i6) = true → (Q211 l10 i6) = true), ((l10.getD (i6).toNat false) = true → (Q211 l10 i6) = true)] hn mix (no_hand hΓ) (by kernel_rfl) ⟨hc12, rfl, (fun hg => hg), (fun hg => hg), (fun hg => hg), (fun hg => (hc13 hg)), (fun hg => hg), (fun hg => hg), (fun hg => hg), (fun hg => hg), gT, trivial⟩ ?_
              refine awp_cond (bif (l10.getD (i6).toNat false) then (decide ((i9 : Int) < ((a_g.Succ.getD (i6).toNat []).length : Int))) else false) (by kernel_rfl) (fun hb => ?_) (fun hb => ?_)
              · replace h := cond_t hb h
                clear hb
                refine awp_skip ?_
                refine then_normal ?_
                refine awp_seq ?_
                obtain ⟨x20, hx20, h⟩ := bind_some h
                refine awp_join (fun (l14 : List (Bool)) (e : Exit) (st : St) => e = .normal ∧ Le Γ st (⟨[(2, (Q217 a_p2)), (3, (.ptr 3 0)), (7, (.vsl 14 l14.length)), (8, (.int .i64 i3)), (9, (.int .i64 i6)), (10, (.int .i64 i9))], [(3, .row 26 (Q209 a_g)), (14, .arr 1 4 l14.length (fun i => eB (l14.getD i false)))], []⟩ : St)) hx20 ?_ ?_
                · clear h hx20
                  intro y h
                  refine awp_block ?_
                  obtain ⟨hc15, h⟩ := chk_some h
                  obtain ⟨hc16, h⟩ := chk_some h
                  refine rgs [] [] (⟨[(2, (Q217 a_p2)), (3, (.ptr 3 0)), (7, (.vsl 14 l10.length)), (8, (.int .i64 i3)), (9, (.int .i64 i6)), (10, (.int .i64 i9)), (59, (.bool (((Q213 a_g i6 i9) : Int) != a_p2)))], (Q214 a_g l10), []⟩ : St) [(InB i6 a_g.Succ.length), (InB i9 (a_g.Succ.getD (i6).toNat []).length)] hn mix (no_hand hΓ) (by kernel_rfl) ⟨hc15, hc16, trivial⟩ ?_
                  refine awp_cond (((Q213 a_g i6 i9) : Int) != a_p2) (by kernel_rfl) (fun hb => ?_) (fun hb => ?_)
                  · replace h := cond_t hb h
                    clear hb
                    obtain ⟨hc17, h⟩ := chk_some h
                    obtain ⟨hc18, h⟩ := chk_some h
                    obtain ⟨hc19, h⟩ := chk_some h
                    refine rg [] [] (⟨(Q212 a_p2 l10 i3 i6 i9), [(3, .row 26 (Q209 a_g)), (14, .arr 1 4 l10.length (fun i_ => AV.eraseAll (fun n_ => memB n_ [3, 14]) ((putF (fun i => eB (l10.getD i false)) ((Q213 a_g i6 i9)).toNat 0 [(.bool true)]) i_)))], []⟩ : St) [(InB i6 a_g.Succ.length), (InB i9 (a_g.Succ.getD (i6).toNat []).length), (InB (Q213 a_g i6 i9) l10.length), (l10.length = l10.length)] hn mix (no_hand hΓ) (by kernel_rfl) ⟨hc17, hc18, hc19, rfl, trivial⟩ ?_
                    refine block_normal ?_
                    obtain rfl := Option.some.inj h
                    exact ⟨rfl, Le.trans (Le.trans (le_of (st' := (⟨(Q212 a_p2 l10 i3 i6 i9), [(3, .row 26 (Q209 a_g)), (14, .arr 1 4 l10.length (fun i => eB ((l10.set ((Q213 a_g i6 i9)).toNat true).getD i false)))], []⟩ : St)) (TmpsLe.refl _) (.same (.arr (leL_of_eq (List.length_set ..).symm (fun k_ hk_ => (congrArg (AV.eraseAll (fun n_ => memB n_ [3, 14])) ((putF_set (fun _ _ => rfl) (inB_lt0 hc19) rfl) k_ hk_)).trans rfl)) .nil))) (le_eq (congrArg (fun k_ : Nat => (⟨[(2, (Q217 a_p2)), (3, (.ptr 3 0)), (7, (.vsl 14 k_)), (8, (.int .i64 i3)), (9, (.int .i64 i6)), (10, (.int .i64 i9))], [(3, .row 26 (Q209 a_g)), (14, .arr 1 4 k_ (fun i => eB ((l10.set ((Q213 a_g i6 i9)).toNat true).getD i false)))], []⟩ : St)) (show l10.length = (l10.set ((Q213 a_g i6 i9)).toNat true).length from (List.length_set ..).symm)))) (Le.refl _ _)⟩
                  · replace h := cond_f hb h
                    clear hb
                    refine awp_skip ?_
                    refine block_normal ?_
                    obtain rfl := Option.some.inj h
                    exact ⟨rfl, le_restrict_eq [2, 3, 7, 8, 9, 10] [3, 14] (by kernel_rfl) (no_hand hΓ)⟩
                · clear hx20
                  rintro e st' ⟨rfl, hl21⟩
                  refine then_normal ?_
                  refine awp_le hl21 ?_
                  refine rg0 (⟨[(2, (Q217 a_p2)), (3, (.ptr 3 0)), (7, (.vsl 14 x20.length)), (8, (.int .i64 i3)), (9, (.int .i64 i6)), (10, (.int .i64 (w64 (i9 + (1 : Int)))))], [(3, .row 26 (Q209 a_g)), (14, .arr 1 4 x20.length (fun i => eB (x20.getD i false)))], []⟩ : St) hn mix (no_hand hΓ) (by kernel_rfl) ?_
                  obtain rfl := Option.some.inj h
                  exact ⟨rfl, Le.refl _ _⟩
              · replace h := cond_f hb h
                clear hb
                refine awp_exit ?_
                refine then_exit ?_
                obtain rfl := Option.some.inj h
                exact ⟨(by intro hh; cases hh), rfl, le_restrict_eq [2, 3, 7, 8, 9] [3, 14] (by kernel_rfl) (no_hand hΓ)⟩
            · clear hx22
              rintro e st' ⟨rfl, hl23⟩
              refine block_here ?_
              refine block_normal ?_
              refine then_normal ?_
              refine awp_le hl23 ?_
              refine rg0 (⟨[(2, (Q217 a_p2)), (3, (.ptr 3 0)), (7, (.vsl 14 x22.length)), (8, (.int .i64 i3)), (9, (.int .i64 (w64 (i6 + (1 : Int)))))], [(3, .row 26 (Q209 a_g)), (14, .arr 1 4 x22.length (fun i => eB (x22.getD i false)))], []⟩ : St) hn mix (no_hand hΓ) (by kernel_rfl) ?_
              obtain rfl := Option.some.inj h
              exact ⟨rfl, Le.refl _ _⟩
          · replace h := cond_f hb h
            clear hb
            refine awp_exit ?_
            refine then_exit ?_
            obtain rfl := Option.some.inj h
            exact ⟨(by intro hh; cases hh), rfl, le_restrict_eq [2, 3, 7, 8] [3, 14] (by kernel_rfl) (no_hand hΓ)⟩
        · clear hx24
          rintro e st' ⟨rfl, hl25⟩
          refine block_here ?_
          refine block_normal ?_
          refine then_normal ?_
          refine awp_le hl25 ?_
          refine rg0 (⟨[(2, (Q217 a_p2)), (3, (.ptr 3 0)), (7, (.vsl 14 x24.length)), (8, (.int .i64 (w64 (i3 + (1 : Int)))))], [(3, .row 26 (Q209 a_g)), (14, .arr 1 4 x24.length (fun i => eB (x24.getD i false)))], []⟩ : St) hn mix (no_hand hΓ) (by kernel_rfl) ?_
          obtain rfl := Option.some.inj h
          exact ⟨rfl, Le.refl _ _⟩
      · replace h := cond_f hb h
        clear hb
        refine awp_exit ?_
        refine then_exit ?_
        obtain rfl := Option.some.inj h
        exact ⟨(by intro hh; cases hh), rfl, le_restrict_eq [7] [14] (by kernel_rfl) (no_hand hΓ)⟩
    · clear hx26
      rintro e st' ⟨rfl, hl27⟩
      refine block_here ?_
      refine then_normal ?_
      refine awp_le hl27 ?_
      refine rgs0 (⟨[(6, (.vsl 14 x26.length))], [(14, .arr 1 4 x26.length (fun i => eB (x26.getD i false)))], []⟩ : St) hn mix (no_hand hΓ) (by kernel_rfl) ?_
      refine awp_le (Le.trans (le_freeze (nm := 14) (sz := 1) (n := x26.length) (e := 4) (f := (fun i => eB (x26.getD i false))) (g := (fun i => eB (x26.getD i false))) rfl ⟨rfl, trivial⟩ (fun _ _ => rfl) (by rw [hΓ]; rfl)) (le_eq (st' := (⟨[(6, (AV.list 1 eB false x26 (.own 14)))], [(14, .tok 1 4 x26.length)], []⟩ : St)) (by kernel_rfl))) ?_
      refine awp_ret ?_
      obtain rfl := Option.some.inj h
      exact ⟨.inl rfl, [(14, 20000)], by kernel_rfl⟩

noncomputable def m_lockstepref07_Tree_L1 (a_g : TGraph) (x2 : List (Bool)) (i4 : Int) (l5 : List (List (Bool))) (x9 : List (Bool)) : (Int × List (Bool)) → Option (LR (Int × List (Bool)) (List (Bool))) :=
  fun ((i10, l11) : (Int × List (Bool))) => (bif (decide ((i10 : Int) < (a_g.Succ.length : Int))) then (chk (InB i4 l5.length) (chk (InB i10 x2.length) (chk (((x2.getD (i10).toNat false) == true) = true → (InB i10 x9.length)) (chk (InB i10 l11.length) (some (.next ((w64 (i10 + (1 : Int))), (l11.set (i10).toNat (bif (x2.getD (i10).toNat false) then (!(x9.getD (i10).toNat false)) else false))))))))) else (some (.done l11)))
noncomputable def m_lockstepref07_Tree_L2 (a_g : TGraph) (a_p1 : Int) (x2 : List (Bool)) : (Int × List (List (Bool))) → Option (LR (Int × List (List (Bool))) (List (List (Bool)))) :=
  fun ((i4, l5) : (Int × List (List (Bool)))) => (bif (decide ((i4 : Int) < (a_g.Succ.length : Int))) then (chk (0 ≤ (a_g.Succ.length : Int) ∧ (a_g.Succ.length : Int) ≤ (a_g.Succ.length : Int) ∧ (a_g.Succ.length : Int) ≤ (room : Int)) (chk (InB i4 l5.length) ((m_lockstepref06_Reach a_g a_p1 i4).bind fun x9 => ((loopO (S := (Int × List (Bool))) (X := List (Bool)) (m_lockstepref07_Tree_L1 a_g x2 i4 l5 x9) ((0 : Int), (List.replicate ((a_g.Succ.length : Int)).toNat false))).bind (fun x17 => ((some (.next ((w64 (i4 + (1 : Int))), (l5.set (i4).toNat x17)))))))))) else (some (.done l5)))
noncomputable def m_lockstepref07_Tree_L3 (a_g : TGraph) (l6 : List (List (Bool))) (i22 : Int) (i30 : Int) : (Bool × Int) → Option (LR (Bool × Int) Bool) :=
  fun ((b36, i37) : (Bool × Int)) => (bif (decide ((i37 : Int) < (a_g.Succ.length : Int))) then (chk (((b36 == true) && (((i37 : Int) == i22) == false)) = true → (InB i37 l6.length)) (chk (((b36 == true) && (((i37 : Int) == i22) == false)) = true → (InB i22 (l6.getD (i37).toNat []).length)) (chk (((b36 == true) && ((bif ((i37 : Int) == i22) then true else (!((l6.getD (i37).toNat []).getD (i22).toNat false))) == false)) = true → (InB i37 l6.length)) (chk (((b36 == true) && ((bif ((i37 : Int) == i22) then true else (!((l6.getD (i37).toNat []).getD (i22).toNat false))) == false)) = true → (InB i30 (l6.getD (i37).toNat []).length)) (some (.next ((bif b36 then (bif (bif ((i37 : Int) == i22) then true else (!((l6.getD (i37).toNat []).getD (i22).toNat false))) then true else ((l6.getD (i37).toNat []).getD (i30).toNat false)) else false), (w64 (i37 + (1 : Int)))))))))) else (some (.done b36)))
noncomputable def m_lockstepref07_Tree_L4 (a_g : TGraph) (a_p1 : Int) (l6 : List (List (Bool))) (i22 : Int) : (Int × List (Int)) → Option (LR (Int × List (Int)) (List (Int))) :=
  fun ((i30, l31) : (Int × List (Int))) => (bif (bif (decide ((i30 : Int) < (a_g.Succ.length : Int))) then ((i22 : Int) != a_p1) else false) then (Option.bind (α := List (Int)) (chk ((((i30 : Int) == i22) == false) = true → (InB i30 l6.length)) (chk ((((i30 : Int) == i22) == false) = true → (InB i22 (l6.getD (i30).toNat []).length)) (bif (bif ((i30 : Int) == i22) then true else (!((l6.getD (i30).toNat []).getD (i22).toNat false))) then (some (l31)) else ((loopO (S := (Bool × Int)) (X := Bool) (m_lockstepref07_Tree_L3 a_g l6 i22 i30) (true, (0 : Int))).bind (fun x43 => ((bif x43 then (chk (InB i22 l31.length) (some ((l31.set (i22).toNat i30)))) else (some (l31))))))))) (fun x46 => ((some (.next ((w64 (i30 + (1 : Int))), x46)))))) else (some (.done l31)))
noncomputable def m_lockstepref07_Tree_L5 (a_g : TGraph) (a_p1 : Int) (l6 : List (List (Bool))) : (Int × List (Int)) → Option (LR (Int × List (Int)) (List (Int))) :=
  fun ((i22, l23) : (Int × List (Int))) => (bif (decide ((i22 : Int) < (a_g.Succ.length : Int))) then (chk (InB i22 l23.length) (Option.bind (α := List (Int)) (bif ((i22 : Int) == a_p1) then (chk (InB i22 (l23.set (i22).toNat (-2 : Int)).length) (some (((l23.set (i22).toNat (-2 : Int)).set (i22).toNat (-1 : Int))))) else (some ((l23.set (i22).toNat (-2 : Int))))) (fun x28 => (((loopO (S := (Int × List (Int))) (X := List (Int)) (m_lockstepref07_Tree_L4 a_g a_p1 l6 i22) ((0 : Int), x28)).bind (fun x48 => ((some (.next ((w64 (i22 + (1 : Int))), x48)))))))))) else (some (.done l23)))
noncomputable def Q229 (a_p1 : Int) : AV := (.int .i64 a_p1)
noncomputable def Q240 (l5 : List (List (Bool))) : AV := (.vsl 37 l5.length)
noncomputable def Q232 (x19 : List (List (Bool))) : AV := (.vsl 37 x19.length)
noncomputable def Q222 (a_g : TGraph) := (a_g.Succ.length : Int)
noncomputable def Q233 (a_g : TGraph) : AV := (.int .i64 (Q222 a_g))
noncomputable def Q261 := (fun n_ => memB n_ [37, 75])
noncomputable def Q228 (l5 : List (List (Bool))) := (fun i => eLB (l5.getD i []))
noncomputable def Q236 (x19 : List (List (Bool))) := (fun i => eLB (x19.getD i []))
noncomputable def Q239 (i30 : Int) (i22 : Int) := (((i30 : Int) == i22) == false)
noncomputable def Q238 (l23 : List (Int)) (i22 : Int) := (l23.set (i22).toNat (-2 : Int))
noncomputable def Q226 (x2 : List (Bool)) : AV := (AV.list 1 eB false x2 (.own 35))
noncomputable def Q231 (x9 : List (Bool)) : AV := (AV.list 1 eB false x9 (.own 51))
noncomputable def Q258 (i30 : Int) (a_g : TGraph) := (decide ((i30 : Int) < (Q222 a_g)))
noncomputable def Q259 := (fun n_ => memB n_ [2, 35, 37, 46])
noncomputable def Q243 (x2 : List (Bool)) (i10 : Int) := ((x2.getD (i10).toNat false) == true)
noncomputable def Q234 (a_g : TGraph) := (List.replicate ((Q222 a_g)).toNat false)
noncomputable def Q254 (a_g : TGraph) := (List.replicate ((Q222 a_g)).toNat (0 : Int))
noncomputable def Q255 : AV := (AV.list 1 eI64 (0 : Int) ([] : List Int) .exact)
noncomputable def Q227 (b36 : Bool) (i37 : Int) (i22 : Int) := ((b36 == true) && (((i37 : Int) == i22) == false))
noncomputable def Q242 (a_g : TGraph) := (List.replicate ((Q222 a_g)).toNat ([] : List (Bool)))
noncomputable def Q230 (x1 : Bool) (a_p1 : Int) := (bif (!x1) then true else (decide ((a_p1 : Int) < (0 : Int))))
noncomputable def Q260 (a_g : TGraph) := (0 ≤ (Q222 a_g) ∧ (Q222 a_g) ≤ (Q222 a_g) ∧ (Q222 a_g) ≤ (room : Int))
noncomputable def Q221 (a_g : TGraph) : List AV := [(AV.list 1 eLI64 [] a_g.Succ .none), (AV.list 1 eLI64 [] a_g.Pred .none)]
noncomputable def Q224 (l11 : List (Bool)) (i10 : Int) (x2 : List (Bool)) (x9 : List (Bool)) := (l11.set (i10).toNat (bif (x2.getD (i10).toNat false) then (!(x9.getD (i10).toNat false)) else false))
noncomputable def Q253 (a_p1 : Int) (a_g : TGraph) (x19 : List (List (Bool))) (l23 : List (Int)) (i22 : Int) : List (Nat × AV) := [(1, (Q229 a_p1)), (5, (Q233 a_g)), (7, (Q232 x19)), (11, (.vsl 75 l23.length)), (12, (.int .i64 i22))]
noncomputable def Q245 (a_p1 : Int) (a_g : TGraph) (x2 : List (Bool)) (l5 : List (List (Bool))) (i4 : Int) : List (Nat × AV) := [(1, (Q229 a_p1)), (2, (.ptr 2 0)), (5, (Q233 a_g)), (6, (Q226 x2)), (7, (Q240 l5)), (8, (.int .i64 i4))]
noncomputable def Q256 (x19 : List (List (Bool))) (l23 : List (Int)) : List (Nat × Own) := [(37, .arr 1 39 x19.length (Q236 x19)), (75, .arr 1 3 l23.length (fun i => eI64 (l23.getD i (0 : Int))))]
noncomputable def Q262 := (⟨[(4, (AV.list 1 eI64 (0 : Int) ([] : List Int) (.own 6004)))], [(6004, .tok 1 3 (([] : List Int).length))], []⟩ : St)
noncomputable def Q244 (l5 : List (List (Bool))) (i4 : Int) (l11 : List (Bool)) := (fun i_ => AV.eraseAll (fun n_ => memB n_ [2, 35, 37, 46, 51]) ((putF (Q228 l5) (i4).toNat 0 [(.vsl 46 l11.length)]) i_))
noncomputable def Q223 (b36 : Bool) (i37 : Int) (i22 : Int) (x19 : List (List (Bool))) := ((b36 == true) && ((bif ((i37 : Int) == i22) then true else (!((x19.getD (i37).toNat []).getD (i22).toNat false))) == false))
noncomputable def Q225 (x19 : List (List (Bool))) (l31 : List (Int)) : List (Nat × Own) := [(37, .arr 1 39 x19.length (Q236 x19)), (75, .arr 1 3 l31.length (fun i => eI64 (l31.getD i (0 : Int))))]
noncomputable def Q252 (a_p1 : Int) (a_g : TGraph) (x2 : List (Bool)) (l5 : List (List (Bool))) (i4 : Int) : List (Nat × AV) := [(1, (Q229 a_p1)), (2, (.ptr 2 0)), (5, (Q233 a_g)), (6, (Q226 x2)), (7, (Q240 l5)), (8, (.int .i64 (w64 (i4 + (1 : Int)))))]
noncomputable def Q251 (a_p1 : Int) (a_g : TGraph) (x19 : List (List (Bool))) (l31 : List (Int)) (i22 : Int) (i30 : Int) : List (Nat × AV) := [(1, (Q229 a_p1)), (5, (Q233 a_g)), (7, (Q232 x19)), (11, (.vsl 75 l31.length)), (12, (.int .i64 i22)), (13, (.int .i64 i30))]
noncomputable def Q246 (a_p1 : Int) (a_g : TGraph) (x2 : List (Bool)) (l5 : List (List (Bool))) (i4 : Int) (x9 : List (Bool)) (i10 : Int) : List (Nat × AV) := [(1, (Q229 a_p1)), (2, (.ptr 2 0)), (5, (Q233 a_g)), (6, (Q226 x2)), (7, (Q240 l5)), (8, (.int .i64 i4)), (9, (Q231 x9)), (10, (.int .i64 i10))]
noncomputable def Q250 (a_p1 : Int) (a_g : TGraph) (x2 : List (Bool)) (l5 : List (List (Bool))) (i4 : Int) (x9 : List (Bool)) : List (Nat × AV) := [(1, (Q229 a_p1)), (2, (.ptr 2 0)), (5, (Q233 a_g)), (6, (Q226 x2)), (7, (Q240 l5)), (8, (.int .i64 i4)), (9, (Q231 x9)), (10, (.int .i64 (0 : Int)))]
noncomputable def Q248 (a_p1 : Int) (a_g : TGraph) (x2 : List (Bool)) (l5 : List (List (Bool))) (i4 : Int) (x9 : List (Bool)) (i10 : Int) : List (Nat × AV) := [(1, (Q229 a_p1)), (2, (.ptr 2 0)), (5, (Q233 a_g)), (6, (Q226 x2)), (7, (Q240 l5)), (8, (.int .i64 i4)), (9, (Q231 x9)), (10, (.int .i64 (w64 (i10 + (1 : Int)))))]
noncomputable def Q257 (b36 : Bool) (i37 : Int) (i22 : Int) (x19 : List (List (Bool))) (i30 : Int) : AV := (.bool (bif b36 then (bif (bif ((i37 : Int) == i22) then true else (!((x19.getD (i37).toNat []).getD (i22).toNat false))) then true else ((x19.getD (i37).toNat []).getD (i30).toNat false)) else false))
noncomputable def Q237 (a_g : TGraph) (x2 : List (Bool)) (l5 : List (List (Bool))) (i4 : Int) (l11 : List (Bool)) (x9 : List (Bool)) : List (Nat × Own) := [(2, .row 26 (Q221 a_g)), (35, .tok 1 4 x2.length), (37, .arr 1 39 l5.length (putF (Q228 l5) (i4).toNat 0 [(.vsl 46 l11.length)])), (46, .arr 1 4 l11.length (fun i => eB (l11.getD i false))), (51, .tok 1 4 x9.length)]
noncomputable def Q249 (a_g : TGraph) (x2 : List (Bool)) (l5 : List (List (Bool))) (i4 : Int) (x9 : List (Bool)) : List (Nat × Own) := [(2, .row 26 (Q221 a_g)), (35, .tok 1 4 x2.length), (37, .arr 1 39 l5.length (putF (Q228 l5) (i4).toNat 0 [(.vsl 46 (Q234 a_g).length)])), (46, .arr 1 4 ((Q234 a_g).length) (fun i => eB ((Q234 a_g).getD i false))), (51, .tok 1 4 x9.length)]
noncomputable def Q235 (a_g : TGraph) (x2 : List (Bool)) (l5 : List (List (Bool))) (i4 : Int) (l11 : List (Bool)) (i10 : Int) (x9 : List (Bool)) : List (Nat × Own) := [(2, .row 26 (Q221 a_g)), (35, .tok 1 4 x2.length), (37, .arr 1 39 l5.length (putF (Q228 l5) (i4).toNat 0 [(.vsl 46 (Q224 l11 i10 x2 x9).length)])), (46, .arr 1 4 ((Q224 l11 i10 x2 x9).length) (fun i => eB ((Q224 l11 i10 x2 x9).getD i false))), (51, .tok 1 4 x9.length)]
noncomputable def Q247 (a_g : TGraph) (x2 : List (Bool)) (l5 : List (List (Bool))) (i4 : Int) (x9 : List (Bool)) : List (Nat × Own) := [(2, .row 26 (Q221 a_g)), (35, .tok 1 4 x2.length), (37, .arr 1 39 l5.length (fun i_ => AV.eraseAll (fun n_ => memB n_ [2, 35, 37, 46, 51]) ((putF (Q228 l5) (i4).toNat 0 [(.vsl 46 (Q234 a_g).length)]) i_))), (46, .arr 1 4 ((Q234 a_g).length) (fun i => eB ((Q234 a_g).getD i false))), (51, .tok 1 4 x9.length)]
noncomputable def Q241 (a_g : TGraph) (x2 : List (Bool)) (l5 : List (List (Bool))) (i4 : Int) (l11 : List (Bool)) (i10 : Int) (x9 : List (Bool)) : List (Nat × Own) := [(2, .row 26 (Q221 a_g)), (35, .tok 1 4 x2.length), (37, .arr 1 39 l5.length (fun i_ => AV.eraseAll (fun n_ => memB n_ [2, 35, 37, 46, 51]) ((putF (Q228 l5) (i4).toNat 0 [(.vsl 46 (Q224 l11 i10 x2 x9).length)]) i_))), (46, .arr 1 4 ((Q224 l11 i10 x2 x9).length) (fun i => eB ((Q224 l11 i10 x2 x9).getD i false))), (51, .tok 1 4 x9.length)]
noncomputable def m_lockstepref07_Tree (a_g : TGraph) (a_p1 : Int) : Option (List (Int)) :=
  ((m_lockstepref06_May a_g).bind fun x1 => (bif (bif (bif (!x1) then true else (decide ((a_p1 : Int) < (0 : Int)))) then true else (decide (((a_g.Succ.length : Int) : Int) ≤ a_p1))) then (some ([] : List Int)) else ((m_lockstepref06_Reach a_g a_p1 (-1 : Int)).bind fun x2 => (chk (0 ≤ (a_g.Succ.length : Int) ∧ (a_g.Succ.length : Int) ≤ (a_g.Succ.length : Int) ∧ (a_g.Succ.length : Int) ≤ (room : Int)) ((loopO (S := (Int × List (List (Bool)))) (X := List (List (Bool))) (m_lockstepref07_Tree_L2 a_g a_p1 x2) ((0 : Int), (List.replicate ((a_g.Succ.length : Int)).toNat ([] : List (Bool))))).bind (fun x19 => ((chk (0 ≤ (a_g.Succ.length : Int) ∧ (a_g.Succ.length : Int) ≤ (a_g.Succ.length : Int) ∧ (a_g.Succ.length : Int) ≤ (room : Int)) ((loopO (S := (Int × List (Int))) (X := List (Int)) (m_lockstepref07_Tree_L5 a_g a_p1 x19) ((0 : Int), (List.replicate ((a_g.Succ.length : Int)).toNat (0 : Int)))).bind (fun x50 => ((some x50))))))))))))
theorem ok_lockstepref07_Tree (a_g : TGraph) (a_p1 : Int) (r : List (Int)) (h : m_lockstepref07_Tree a_g a_p1 = some r) : Spec Try.prog 14 [(.agg (eTGraph a_g)), (.int .i64 a_p1)] [] (AV.list 1 eI64 (0 : Int) r (.own 20000)) [(20000, .tok 1 3 r.length)] := by
  refine spec_of_awp (fn := Try.f14) Try.func14 rfl rfl (by kernel_rfl) (fun Γ hn hΓ => ?_)
  have hn : Γ.n = 149 := hn
  unfold m_lockstepref07_Tree at h
  refine rgs [] [(4, Q255)] (⟨[(1, (Q229 a_p1)), (2, (.ptr 2 0))], [(2, .row 26 (Q221 a_g))], []⟩ : St) [(AVle (.slice 0 0 (fun _ => []) .exact) Q255)] hn mix (no_hand hΓ) (by kernel_rfl) ⟨av_nil, trivial⟩ ?_
  refine awp_seq ?_
  obtain ⟨x1, hx1, h⟩ := bind_some h
  refine rgs [⟨[], [], (.bool x1), []⟩] [] (⟨[(1, (Q229 a_p1)), (2, (.ptr 2 0)), (29, (.bool (bif (Q230 x1 a_p1) then true else (decide (((Q222 a_g) : Int) ≤ a_p1)))))], [(2, .row 26 (Q221 a_g))], []⟩ : St) [(Spec Try.prog 29 [(.agg (eTGraph a_g))] [] (.bool x1) []), (((!x1) == false) = true → ((!x1) == false) = true), ((!x1) = false → ((!x1) == false) = true), (((Q230 x1 a_p1) == false) = true → ((Q230 x1 a_p1) == false) = true), (((Q230 x1 a_p1) == false) = true → ((Q230 x1 a_p1) == false) = true), (((Q230 x1 a_p1) == false) = true → ((Q230 x1 a_p1) == false) = true), (((Q230 x1 a_p1) == false) = true → ((Q230 x1 a_p1) == false) = true), ((Q230 x1 a_p1) = false → ((Q230 x1 a_p1) == false) = true)] hn mix (no_hand hΓ) (by kernel_rfl) ⟨(ok_lockstepref06_May a_g x1 hx1), (fun hg => hg), gF, (fun hg => hg), (fun hg => hg), (fun hg => hg), (fun hg => hg), gF, trivial⟩ ?_
  refine awp_cond (bif (Q230 x1 a_p1) then true else (decide (((Q222 a_g) : Int) ≤ a_p1))) (by kernel_rfl) (fun hb => ?_) (fun hb => ?_)
  · replace h := cond_t hb h
    clear hb
    refine rgs [] [(4, Q255)] (⟨[(4, Q255)], [], []⟩ : St) [(AVle (.slice 0 0 (fun _ => []) .exact) Q255)] hn mix (no_hand hΓ) (by kernel_rfl) ⟨av_nil, trivial⟩ ?_
    refine awp_le (st' := Q262) (Le.trans (le_restrict_eq (st' := (⟨[(4, Q255)], [], []⟩ : St)) [4] [] (by kernel_rfl) (no_hand hΓ)) (Le.trans (le_tag (t := 4) (nm := 6004) (sz' := 1) (fun i => eI64 (([] : List Int).getD i (0 : Int))) 3 rfl rfl (.inl ⟨rfl, rfl⟩) (fun h_ => absurd h_ (by decide))) (le_restrict_eq (st' := Q262) [4] [6004] (by kernel_rfl) (no_hand hΓ)))) ?_
    refine awp_ret ?_
    refine then_ret ?_
    obtain rfl := Option.some.inj h
    exact ⟨.inl rfl, [(6004, 20000)], by kernel_rfl⟩
  · replace h := cond_f hb h
    clear hb
    refine awp_skip ?_
    refine then_normal ?_
    refine rgs0 (⟨[(1, (Q229 a_p1)), (2, (.ptr 2 0)), (5, (Q233 a_g))], [(2, .row 26 (Q221 a_g))], []⟩ : St) hn mix (no_hand hΓ) (by kernel_rfl) ?_
    obtain ⟨x2, hx2, h⟩ := bind_some h
    refine rgs [⟨[], [(20000, 35)], (AV.list 1 eB false x2 (.own 20000)), [(20000, .tok 1 4 x2.length)]⟩] [] (⟨[(1, (Q229 a_p1)), (2, (.ptr 2 0)), (5, (Q233 a_g)), (6, (Q226 x2))], [(2, .row 26 (Q221 a_g)), (35, .tok 1 4 x2.length)], []⟩ : St) [(Spec Try.prog 22 [(.agg (eTGraph a_g)), (Q229 a_p1), (.int .i64 (-1 : Int))] [] (AV.list 1 eB false x2 (.own 20000)) [(20000, .tok 1 4 x2.length)])] hn mix (no_hand hΓ) (by kernel_rfl) ⟨(ok_lockstepref06_Reach a_g a_p1 (-1 : Int) x2 hx2), trivial⟩ ?_
    obtain ⟨hc3, h⟩ := chk_some h
    refine rgs [] [] (⟨[(1, (Q229 a_p1)), (2, (.ptr 2 0)), (5, (Q233 a_g)), (6, (Q226 x2)), (7, (.vsl 37 ((Q222 a_g)).toNat))], [(2, .row 26 (Q221 a_g)), (35, .tok 1 4 x2.length), (37, .arr 1 39 (((Q222 a_g)).toNat) (fun i_ => AV.eraseAll (fun n_ => memB n_ [2, 35, 37]) ((fun _ => [(.slice 0 0 (fun _ => []) .exact)]) i_)))], []⟩ : St) [(Q260 a_g)] hn mix (no_hand hΓ) (by kernel_rfl) ⟨hc3, trivial⟩ ?_
    refine awp_le (Le.trans (le_of (st' := (⟨[(1, (Q229 a_p1)), (2, (.ptr 2 0)), (5, (Q233 a_g)), (6, (Q226 x2)), (7, (.vsl 37 ((Q222 a_g)).toNat))], [(2, .row 26 (Q221 a_g)), (35, .tok 1 4 x2.length), (37, .arr 1 39 (((Q222 a_g)).toNat) (fun i => eLB ((Q242 a_g).getD i [])))], []⟩ : St)) (TmpsLe.refl _) (.same (.same (.arr (fun k hk => make_le (e := eLB) (d := []) (.cons (fun _ _ _ _ _ hh => AVle.untag _ _ _ _ _ (av_nil _ _ _ _ _ hh)) .nil) _ k (repl_lt hk)) .nil)))) (le_eq (congrArg (fun k_ : Nat => (⟨[(1, (Q229 a_p1)), (2, (.ptr 2 0)), (5, (Q233 a_g)), (6, (Q226 x2)), (7, (.vsl 37 k_))], [(2, .row 26 (Q221 a_g)), (35, .tok 1 4 x2.length), (37, .arr 1 39 k_ (fun i => eLB ((Q242 a_g).getD i [])))], []⟩ : St)) (show ((Q222 a_g)).toNat = (Q242 a_g).length from (List.length_replicate ..).symm)))) ?_
    refine awp_seq ?_
    refine rgs0 (⟨[(1, (Q229 a_p1)), (2, (.ptr 2 0)), (5, (Q233 a_g)), (6, (Q226 x2)), (7, (.vsl 37 (Q242 a_g).length)), (8, (.int .i64 (0 : Int)))], [(2, .row 26 (Q221 a_g)), (35, .tok 1 4 x2.length), (37, .arr 1 39 ((Q242 a_g).length) (fun i => eLB ((Q242 a_g).getD i [])))], []⟩ : St) hn mix (no_hand hΓ) (by kernel_rfl) ?_
    refine awp_block ?_
    refine awp_le (st' := (fun ((i4, l5) : (Int × List (List (Bool)))) => (⟨(Q245 a_p1 a_g x2 l5 i4), [(2, .row 26 (Q221 a_g)), (35, .tok 1 4 x2.length), (37, .arr 1 39 l5.length (Q228 l5))], []⟩ : St)) ((0 : Int), (Q242 a_g))) (Le.refl _ _) ?_
    obtain ⟨x19, hx19, h⟩ := bind_some h
    refine awp_loop (fun ((i4, l5) : (Int × List (List (Bool)))) => (⟨(Q245 a_p1 a_g x2 l5 i4), [(2, .row 26 (Q221 a_g)), (35, .tok 1 4 x2.length), (37, .arr 1 39 l5.length (Q228 l5))], []⟩ : St)) _ (fun (l6 : List (List (Bool))) (e : Exit) (st : St) => e = (.exit 0) ∧ Le Γ st (⟨[(1, (Q229 a_p1)), (5, (Q233 a_g)), (7, (.vsl 37 l6.length))], [(37, .arr 1 39 l6.length (fun i => eLB (l6.getD i [])))], []⟩ : St)) ?_ hx19 ?_
    · rintro ⟨i4, l5⟩ y h
      unfold m_lockstepref07_Tree_L2 at h
      refine awp_seq ?_
      refine rgs0 (⟨[(1, (Q229 a_p1)), (2, (.ptr 2 0)), (5, (Q233 a_g)), (6, (Q226 x2)), (7, (Q240 l5)), (8, (.int .i64 i4)), (40, (.bool (decide ((i4 : Int) < (Q222 a_g)))))], [(2, .row 26 (Q221 a_g)), (35, .tok 1 4 x2.length), (37, .arr 1 39 l5.length (Q228 l5))], []⟩ : St) hn mix (no_hand hΓ) (by kernel_rfl) ?_
      refine awp_cond (decide ((i4 : Int) < (Q222 a_g))) (by kernel_rfl) (fun hb => ?_) (fun hb => ?_)
      · replace h := cond_t hb h
        clear hb
        refine awp_skip ?_
        refine then_normal ?_
        refine awp_seq ?_
        refine awp_block ?_
        obtain ⟨hc7, h⟩ := chk_some h
        obtain ⟨hc8, h⟩ := chk_some h
        refine rgs [] [] (⟨(Q245 a_p1 a_g x2 l5 i4), [(2, .row 26 (Q221 a_g)), (35, .tok 1 4 x2.length), (37, .arr 1 39 l5.length (fun i_ => AV.eraseAll Q259 ((putF (Q228 l5) (i4).toNat 0 [(.vsl 46 ((Q222 a_g)).toNat)]) i_))), (46, .arr 1 4 (((Q222 a_g)).toNat) (fun i_ => AV.eraseAll Q259 ((fun _ => [(.bool false)]) i_)))], []⟩ : St) [(Q260 a_g), (InB i4 l5.length), (l5.length = l5.length)] hn mix (no_hand hΓ) (by kernel_rfl) ⟨hc7, hc8, rfl, trivial⟩ ?_
        refine awp_le (Le.trans (Le.trans (le_of (st' := (⟨(Q245 a_p1 a_g x2 l5 i4), [(2, .row 26 (Q221 a_g)), (35, .tok 1 4 x2.length), (37, .arr 1 39 l5.length (fun i_ => AV.eraseAll Q259 ((putF (Q228 l5) (i4).toNat 0 [(.vsl 46 ((Q222 a_g)).toNat)]) i_))), (46, .arr 1 4 (((Q222 a_g)).toNat) (fun i => eB ((Q234 a_g).getD i false)))], []⟩ : St)) (TmpsLe.refl _) (.same (.same (.same (.arr (fun k hk => make_le (e := eB) (d := false) (.cons (AVle.refl _) .nil) _ k (repl_lt hk)) .nil))))) (le_eq (congrArg (fun k_ : Nat => (⟨(Q245 a_p1 a_g x2 l5 i4), [(2, .row 26 (Q221 a_g)), (35, .tok 1 4 x2.length), (37, .arr 1 39 l5.length (fun i_ => AV.eraseAll Q259 ((putF (Q228 l5) (i4).toNat 0 [(.vsl 46 k_)]) i_))), (46, .arr 1 4 k_ (fun i => eB ((Q234 a_g).getD i false)))], []⟩ : St)) (show ((Q222 a_g)).toNat = (Q234 a_g).length from (List.length_replicate ..).symm)))) (le_of (st' := (⟨(Q245 a_p1 a_g x2 l5 i4), [(2, .row 26 (Q221 a_g)), (35, .tok 1 4 x2.length), (37, .arr 1 39 l5.length (putF (Q228 l5) (i4).toNat 0 [(.vsl 46 (Q234 a_g).length)])), (46, .arr 1 4 ((Q234 a_g).length) (fun i => eB ((Q234 a_g).getD i false)))], []⟩ : St)) (TmpsLe.refl _) (.same (.same (.arr (lent_keep (fun _ => rfl) rfl) (.same .nil)))))) ?_
        obtain ⟨x9, hx9, h⟩ := bind_some h
        refine rgs [⟨[], [(20000, 51)], (AV.list 1 eB false x9 (.own 20000)), [(20000, .tok 1 4 x9.length)]⟩] [] (⟨[(1, (Q229 a_p1)), (2, (.ptr 2 0)), (5, (Q233 a_g)), (6, (Q226 x2)), (7, (Q240 l5)), (8, (.int .i64 i4)), (9, (Q231 x9))], (Q247 a_g x2 l5 i4 x9), []⟩ : St) [(Spec Try.prog 22 [(.agg (eTGraph a_g)), (Q229 a_p1), (.int .i64 i4)] [] (AV.list 1 eB false x9 (.own 20000)) [(20000, .tok 1 4 x9.length)])] hn mix (no_hand hΓ) (by kernel_rfl) ⟨(ok_lockstepref06_Reach a_g a_p1 i4 x9 hx9), trivial⟩ ?_
        refine awp_le (le_of (st' := (⟨[(1, (Q229 a_p1)), (2, (.ptr 2 0)), (5, (Q233 a_g)), (6, (Q226 x2)), (7, (Q240 l5)), (8, (.int .i64 i4)), (9, (Q231 x9))], (Q249 a_g x2 l5 i4 x9), []⟩ : St)) (TmpsLe.refl _) (.same (.same (.arr (lent_keep (fun _ => rfl) rfl) (.same (.same .nil)))))) ?_
        refine rgs0 (⟨(Q250 a_p1 a_g x2 l5 i4 x9), (Q247 a_g x2 l5 i4 x9), []⟩ : St) hn mix (no_hand hΓ) (by kernel_rfl) ?_
        refine awp_le (le_of (st' := (⟨(Q250 a_p1 a_g x2 l5 i4 x9), (Q249 a_g x2 l5 i4 x9), []⟩ : St)) (TmpsLe.refl _) (.same (.same (.arr (lent_keep (fun _ => rfl) rfl) (.same (.same .nil)))))) ?_
        refine awp_block ?_
        refine awp_le (st' := (fun ((i10, l11) : (Int × List (Bool))) => (⟨(Q246 a_p1 a_g x2 l5 i4 x9 i10), (Q237 a_g x2 l5 i4 l11 x9), []⟩ : St)) ((0 : Int), (Q234 a_g))) (Le.trans (Le.trans (le_restrict_eq (st' := (⟨(Q250 a_p1 a_g x2 l5 i4 x9), (Q247 a_g x2 l5 i4 x9), []⟩ : St)) [1, 2, 5, 6, 7, 8, 9, 10] [2, 35, 37, 46, 51] (by kernel_rfl) (no_hand hΓ)) (le_of (st' := (⟨(Q250 a_p1 a_g x2 l5 i4 x9), (Q249 a_g x2 l5 i4 x9), []⟩ : St)) (TmpsLe.refl _) (.same (.same (.arr (lent_keep (fun _ => rfl) rfl) (.same (.same .nil))))))) (le_eq (by kernel_rfl))) ?_
        obtain ⟨x17, hx17, h⟩ := bind_some h
        refine awp_loop (fun ((i10, l11) : (Int × List (Bool))) => (⟨(Q246 a_p1 a_g x2 l5 i4 x9 i10), (Q237 a_g x2 l5 i4 l11 x9), []⟩ : St)) _ (fun (l12 : List (Bool)) (e : Exit) (st : St) => e = (.exit 2) ∧ Le Γ st (⟨(Q245 a_p1 a_g x2 l5 i4), [(2, .row 26 (Q221 a_g)), (35, .tok 1 4 x2.length), (37, .arr 1 39 l5.length (putF (Q228 l5) (i4).toNat 0 [(.vsl 46 l12.length)])), (46, .arr 1 4 l12.length (fun i => eB (l12.getD i false)))], []⟩ : St)) ?_ hx17 ?_
        · rintro ⟨i10, l11⟩ y h
          unfold m_lockstepref07_Tree_L1 at h
          refine awp_seq ?_
          refine rgs0 (⟨[(1, (Q229 a_p1)), (2, (.ptr 2 0)), (5, (Q233 a_g)), (6, (Q226 x2)), (7, (Q240 l5)), (8, (.int .i64 i4)), (9, (Q231 x9)), (10, (.int .i64 i10)), (54, (.bool (decide ((i10 : Int) < (Q222 a_g)))))], [(2, .row 26 (Q221 a_g)), (35, .tok 1 4 x2.length), (37, .arr 1 39 l5.length (Q244 l5 i4 l11)), (46, .arr 1 4 l11.length (fun i => eB (l11.getD i false))), (51, .tok 1 4 x9.length)], []⟩ : St) hn mix (no_hand hΓ) (by kernel_rfl) ?_
          refine awp_le (le_of (st' := (⟨[(1, (Q229 a_p1)), (2, (.ptr 2 0)), (5, (Q233 a_g)), (6, (Q226 x2)), (7, (Q240 l5)), (8, (.int .i64 i4)), (9, (Q231 x9)), (10, (.int .i64 i10)), (54, (.bool (decide ((i10 : Int) < (Q222 a_g)))))], (Q237 a_g x2 l5 i4 l11 x9), []⟩ : St)) (TmpsLe.refl _) (.same (.same (.arr (lent_keep (fun _ => rfl) rfl) (.same (.same .nil)))))) ?_
          refine awp_cond (decide ((i10 : Int) < (Q222 a_g))) (by kernel_rfl) (fun hb => ?_) (fun hb => ?_)
          · replace h := cond_t hb h
            clear hb
            refine awp_skip ?_
            refine then_normal ?_
            refine awp_seq ?_
            refine awp_block ?_
            obtain ⟨hc13, h⟩ := chk_some h
            obtain ⟨hc14, h⟩ := chk_some h
            obtain ⟨hc15, h⟩ := chk_some h
            obtain ⟨hc16, h⟩ := chk_some h
            refine rg [] [(60, (.vsl 46 l11.length))] (⟨(Q246 a_p1 a_g x2 l5 i4 x9 i10), [(2, .row 26 (Q221 a_g)), (35, .tok 1 4 x2.length), (37, .arr 1 39 l5.length (Q244 l5 i4 l11)), (46, .arr 1 4 l11.length (fun i_ => AV.eraseAll (fun n_ => memB n_ [2, 35, 37, 46, 51]) ((putF (fun i => eB (l11.getD i false)) (i10).toNat 0 [(.bool (bif (x2.getD (i10).toNat false) then (!(x9.getD (i10).toNat false)) else false))]) i_))), (51, .tok 1 4 x9.length)], []⟩ : St) [(InB i4 l5.length), (l5.length = l5.length), (AVle (((putF (Q228 l5) (i4).toNat 0 [(.vsl 46 l11.length)]) (i4).toNat).getD 0 .any) (.vsl 46 l11.length)), (InB i10 x2.length), ((Q243 x2 i10) = true → (Q243 x2 i10) = true), ((Q243 x2 i10) = true → (Q243 x2 i10) = true), ((Q243 x2 i10) = true → (InB i10 x9.length)), ((Q243 x2 i10) = true → (Q243 x2 i10) = true), ((Q243 x2 i10) = true → (Q243 x2 i10) = true), ((x2.getD (i10).toNat false) = true → (Q243 x2 i10) = true), (InB i10 l11.length), (l11.length = l11.length)] hn mix (no_hand hΓ) (by kernel_rfl) ⟨hc13, rfl, lent_load, hc14, (fun hg => hg), (fun hg => hg), (fun hg => (hc15 hg)), (fun hg => hg), (fun hg => hg), gT, hc16, rfl, trivial⟩ ?_
            refine block_normal ?_
            refine then_normal ?_
            refine awp_le (Le.trans (Le.trans (le_of (st' := (⟨(Q246 a_p1 a_g x2 l5 i4 x9 i10), [(2, .row 26 (Q221 a_g)), (35, .tok 1 4 x2.length), (37, .arr 1 39 l5.length (Q244 l5 i4 l11)), (46, .arr 1 4 l11.length (fun i => eB ((Q224 l11 i10 x2 x9).getD i false))), (51, .tok 1 4 x9.length)], []⟩ : St)) (TmpsLe.refl _) (.same (.same (.same (.arr (leL_of_eq (List.length_set ..).symm (fun k_ hk_ => (congrArg (AV.eraseAll (fun n_ => memB n_ [2, 35, 37, 46, 51])) ((putF_set (fun _ _ => rfl) (inB_lt0 hc16) rfl) k_ hk_)).trans rfl)) (.same .nil)))))) (le_eq (congrArg (fun k_ : Nat => (⟨(Q246 a_p1 a_g x2 l5 i4 x9 i10), [(2, .row 26 (Q221 a_g)), (35, .tok 1 4 x2.length), (37, .arr 1 39 l5.length (fun i_ => AV.eraseAll (fun n_ => memB n_ [2, 35, 37, 46, 51]) ((putF (Q228 l5) (i4).toNat 0 [(.vsl 46 k_)]) i_))), (46, .arr 1 4 k_ (fun i => eB ((Q224 l11 i10 x2 x9).getD i false))), (51, .tok 1 4 x9.length)], []⟩ : St)) (show l11.length = (Q224 l11 i10 x2 x9).length from (List.length_set ..).symm)))) (le_of (st' := (⟨(Q246 a_p1 a_g x2 l5 i4 x9 i10), (Q235 a_g x2 l5 i4 l11 i10 x9), []⟩ : St)) (TmpsLe.refl _) (.same (.same (.arr (lent_keep (fun _ => rfl) rfl) (.same (.same .nil))))))) ?_
            refine rg0 (⟨(Q248 a_p1 a_g x2 l5 i4 x9 i10), (Q241 a_g x2 l5 i4 l11 i10 x9), []⟩ : St) hn mix (no_hand hΓ) (by kernel_rfl) ?_
            obtain rfl := Option.some.inj h
            exact ⟨rfl, Le.trans (le_of (st' := (⟨(Q248 a_p1 a_g x2 l5 i4 x9 i10), (Q235 a_g x2 l5 i4 l11 i10 x9), []⟩ : St)) (TmpsLe.refl _) (.same (.same (.arr (lent_keep (fun _ => rfl) rfl) (.same (.same .nil)))))) (Le.trans (Le.trans (le_restrict_eq (st' := (⟨(Q248 a_p1 a_g x2 l5 i4 x9 i10), (Q241 a_g x2 l5 i4 l11 i10 x9), []⟩ : St)) [1, 2, 5, 6, 7, 8, 9, 10] [2, 35, 37, 46, 51] (by kernel_rfl) (no_hand hΓ)) (le_of (st' := (⟨(Q248 a_p1 a_g x2 l5 i4 x9 i10), (Q235 a_g x2 l5 i4 l11 i10 x9), []⟩ : St)) (TmpsLe.refl _) (.same (.same (.arr (lent_keep (fun _ => rfl) rfl) (.same (.same .nil))))))) (le_eq (by kernel_rfl)))⟩
          · replace h := cond_f hb h
            clear hb
            refine awp_exit ?_
            refine then_exit ?_
            obtain rfl := Option.some.inj h
            exact ⟨(by intro hh; cases hh), rfl, Le.trans (Le.trans (le_restrict_eq (st' := (⟨(Q245 a_p1 a_g x2 l5 i4), [(2, .row 26 (Q221 a_g)), (35, .tok 1 4 x2.length), (37, .arr 1 39 l5.length (fun i_ => AV.eraseAll Q259 ((putF (Q228 l5) (i4).toNat 0 [(.vsl 46 l11.length)]) i_))), (46, .arr 1 4 l11.length (fun i => eB (l11.getD i false)))], []⟩ : St)) [1, 2, 5, 6, 7, 8] [2, 35, 37, 46] (by kernel_rfl) (no_hand hΓ)) (le_of (st' := (⟨(Q245 a_p1 a_g x2 l5 i4), [(2, .row 26 (Q221 a_g)), (35, .tok 1 4 x2.length), (37, .arr 1 39 l5.length (putF (Q228 l5) (i4).toNat 0 [(.vsl 46 l11.length)])), (46, .arr 1 4 l11.length (fun i => eB (l11.getD i false)))], []⟩ : St)) (TmpsLe.refl _) (.same (.same (.arr (lent_keep (fun _ => rfl) rfl) (.same .nil)))))) (le_eq (by kernel_rfl))⟩
        · clear hx17
          rintro e st' ⟨rfl, hl18⟩
          refine block_here ?_
          refine block_normal ?_
          refine then_normal ?_
          refine awp_le hl18 ?_
          refine rg0 (⟨(Q252 a_p1 a_g x2 l5 i4), [(2, .row 26 (Q221 a_g)), (35, .tok 1 4 x2.length), (37, .arr 1 39 l5.length (fun i_ => AV.eraseAll Q259 ((putF (Q228 l5) (i4).toNat 0 [(.vsl 46 x17.length)]) i_))), (46, .arr 1 4 x17.length (fun i => eB (x17.getD i false)))], []⟩ : St) hn mix (no_hand hΓ) (by kernel_rfl) ?_
          obtain rfl := Option.some.inj h
          exact ⟨rfl, Le.trans (Le.trans (le_of (st' := (⟨(Q252 a_p1 a_g x2 l5 i4), [(2, .row 26 (Q221 a_g)), (35, .tok 1 4 x2.length), (37, .arr 1 39 l5.length (putF (Q228 l5) (i4).toNat 0 [(.vsl 46 x17.length)])), (46, .arr 1 4 x17.length (fun i => eB (x17.getD i false)))], []⟩ : St)) (TmpsLe.refl _) (.same (.same (.arr (lent_keep (fun _ => rfl) rfl) (.same .nil))))) (Le.trans (Le.trans (Le.trans (le_freeze (nm := 46) (sz := 1) (n := x17.length) (e := 4) (f := (fun i => eB (x17.getD i false))) (g := (fun i => eB (x17.getD i false))) rfl trivial (fun _ _ => rfl) (by rw [hΓ]; rfl)) (le_eq (st' := (⟨(Q252 a_p1 a_g x2 l5 i4), [(2, .row 26 (Q221 a_g)), (35, .tok 1 4 x2.length), (37, .arr 1 39 l5.length (fun i_ => AV.frwAll 46 1 x17.length (fun i => eB (x17.getD i false)) ((putF (Q228 l5) (i4).toNat 0 [(.vsl 46 x17.length)]) i_))), (46, .tok 1 4 x17.length)], []⟩ : St)) (by kernel_rfl))) (le_of (st' := (⟨(Q252 a_p1 a_g x2 l5 i4), [(2, .row 26 (Q221 a_g)), (35, .tok 1 4 x2.length), (37, .arr 1 39 l5.length (fun i => eLB ((l5.set (i4).toNat x17).getD i []))), (46, .tok 1 4 x17.length)], []⟩ : St)) (TmpsLe.refl _) (.same (.same (.arr (lent_put (fun _ => rfl) (fun _ => rfl) rfl) (.same .nil)))))) (le_eq (congrArg (fun k_ : Nat => (⟨[(1, (Q229 a_p1)), (2, (.ptr 2 0)), (5, (Q233 a_g)), (6, (Q226 x2)), (7, (.vsl 37 k_)), (8, (.int .i64 (w64 (i4 + (1 : Int)))))], [(2, .row 26 (Q221 a_g)), (35, .tok 1 4 x2.length), (37, .arr 1 39 k_ (fun i => eLB ((l5.set (i4).toNat x17).getD i []))), (46, .tok 1 4 x17.length)], []⟩ : St)) (show l5.length = (l5.set (i4).toNat x17).length from (List.length_set ..).symm))))) (le_restrict_eq [1, 2, 5, 6, 7, 8] [2, 35, 37] (by kernel_rfl) (no_hand hΓ))⟩
      · replace h := cond_f hb h
        clear hb
        refine awp_exit ?_
        refine then_exit ?_
        obtain rfl := Option.some.inj h
        exact ⟨(by intro hh; cases hh), rfl, le_restrict_eq [1, 5, 7] [37] (by kernel_rfl) (no_hand hΓ)⟩
    · clear hx19
      rintro e st' ⟨rfl, hl20⟩
      refine block_here ?_
      refine then_normal ?_
      refine awp_le hl20 ?_
      obtain ⟨hc21, h⟩ := chk_some h
      refine rgs [] [] (⟨[(1, (Q229 a_p1)), (5, (Q233 a_g)), (7, (Q232 x19)), (11, (.vsl 75 ((Q222 a_g)).toNat))], [(37, .arr 1 39 x19.length (Q236 x19)), (75, .arr 1 3 (((Q222 a_g)).toNat) (fun i_ => AV.eraseAll Q261 ((fun _ => [(.int .i64 (0 : Int))]) i_)))], []⟩ : St) [(Q260 a_g)] hn mix (no_hand hΓ) (by kernel_rfl) ⟨hc21, trivial⟩ ?_
      refine awp_le (Le.trans (le_of (st' := (⟨[(1, (Q229 a_p1)), (5, (Q233 a_g)), (7, (Q232 x19)), (11, (.vsl 75 ((Q222 a_g)).toNat))], [(37, .arr 1 39 x19.length (Q236 x19)), (75, .arr 1 3 (((Q222 a_g)).toNat) (fun i => eI64 ((Q254 a_g).getD i (0 : Int))))], []⟩ : St)) (TmpsLe.refl _) (.same (.arr (fun k hk => make_le (e := eI64) (d := (0 : Int)) (.cons (AVle.refl _) .nil) _ k (repl_lt hk)) .nil))) (le_eq (congrArg (fun k_ : Nat => (⟨[(1, (Q229 a_p1)), (5, (Q233 a_g)), (7, (Q232 x19)), (11, (.vsl 75 k_))], [(37, .arr 1 39 x19.length (Q236 x19)), (75, .arr 1 3 k_ (fun i => eI64 ((Q254 a_g).getD i (0 : Int))))], []⟩ : St)) (show ((Q222 a_g)).toNat = (Q254 a_g).length from (List.length_replicate ..).symm)))) ?_
      refine awp_seq ?_
      refine rgs0 (⟨[(1, (Q229 a_p1)), (5, (Q233 a_g)), (7, (Q232 x19)), (11, (.vsl 75 (Q254 a_g).length)), (12, (.int .i64 (0 : Int)))], [(37, .arr 1 39 x19.length (Q236 x19)), (75, .arr 1 3 ((Q254 a_g).length) (fun i => eI64 ((Q254 a_g).getD i (0 : Int))))], []⟩ : St) hn mix (no_hand hΓ) (by kernel_rfl) ?_
      refine awp_block ?_
      refine awp_le (st' := (fun ((i22, l23) : (Int × List (Int))) => (⟨(Q253 a_p1 a_g x19 l23 i22), (Q256 x19 l23), []⟩ : St)) ((0 : Int), (Q254 a_g))) (Le.refl _ _) ?_
      obtain ⟨x50, hx50, h⟩ := bind_some h
      refine awp_loop (fun ((i22, l23) : (Int × List (Int))) => (⟨(Q253 a_p1 a_g x19 l23 i22), (Q256 x19 l23), []⟩ : St)) _ (fun (l24 : List (Int)) (e : Exit) (st : St) => e = (.exit 4) ∧ Le Γ st (⟨[(11, (.vsl 75 l24.length))], [(75, .arr 1 3 l24.length (fun i => eI64 (l24.getD i (0 : Int))))], []⟩ : St)) ?_ hx50 ?_
      · rintro ⟨i22, l23⟩ y h
        unfold m_lockstepref07_Tree_L5 at h
        refine awp_seq ?_
        refine rgs0 (⟨[(1, (Q229 a_p1)), (5, (Q233 a_g)), (7, (Q232 x19)), (11, (.vsl 75 l23.length)), (12, (.int .i64 i22)), (78, (.bool (decide ((i22 : Int) < (Q222 a_g)))))], (Q256 x19 l23), []⟩ : St) hn mix (no_hand hΓ) (by kernel_rfl) ?_
        refine awp_cond (decide ((i22 : Int) < (Q222 a_g))) (by kernel_rfl) (fun hb => ?_) (fun hb => ?_)
        · replace h := cond_t hb h
          clear hb
          refine awp_skip ?_
          refine then_normal ?_
          refine awp_seq ?_
          refine awp_block ?_
          obtain ⟨hc25, h⟩ := chk_some h
          refine rgs [] [] (⟨(Q253 a_p1 a_g x19 l23 i22), [(37, .arr 1 39 x19.length (Q236 x19)), (75, .arr 1 3 l23.length (fun i_ => AV.eraseAll Q261 ((putF (fun i => eI64 (l23.getD i (0 : Int))) (i22).toNat 0 [(.int .i64 (-2 : Int))]) i_)))], []⟩ : St) [(InB i22 l23.length), (l23.length = l23.length)] hn mix (no_hand hΓ) (by kernel_rfl) ⟨hc25, rfl, trivial⟩ ?_
          refine awp_le (Le.trans (le_of (st' := (⟨(Q253 a_p1 a_g x19 l23 i22), [(37, .arr 1 39 x19.length (Q236 x19)), (75, .arr 1 3 l23.length (fun i => eI64 ((Q238 l23 i22).getD i (0 : Int))))], []⟩ : St)) (TmpsLe.refl _) (.same (.arr (leL_of_eq (List.length_set ..).symm (fun k_ hk_ => (congrArg (AV.eraseAll Q261) ((putF_set (fun _ _ => rfl) (inB_lt0 hc25) rfl) k_ hk_)).trans rfl)) .nil))) (le_eq (congrArg (fun k_ : Nat => (⟨[(1, (Q229 a_p1)), (5, (Q233 a_g)), (7, (Q232 x19)), (11, (.vsl 75 k_)), (12, (.int .i64 i22))], [(37, .arr 1 39 x19.length (Q236 x19)), (75, .arr 1 3 k_ (fun i => eI64 ((Q238 l23 i22).getD i (0 : Int))))], []⟩ : St)) (show l23.length = (Q238 l23 i22).length from (List.length_set ..).symm)))) ?_
          refine awp_seq ?_
          obtain ⟨x28, hx28, h⟩ := bind_some h
          refine awp_join (fun (l26 : List (Int)) (e : Exit) (st : St) => e = .normal ∧ Le Γ st (⟨[(1, (Q229 a_p1)), (5, (Q233 a_g)), (7, (Q232 x19)), (11, (.vsl 75 l26.length)), (12, (.int .i64 i22))], [(37, .arr 1 39 x19.length (Q236 x19)), (75, .arr 1 3 l26.length (fun i => eI64 (l26.getD i (0 : Int))))], []⟩ : St)) hx28 ?_ ?_
          · clear h hx28
            intro y h
            refine rgs0 (⟨[(1, (Q229 a_p1)), (5, (Q233 a_g)), (7, (Q232 x19)), (11, (.vsl 75 (Q238 l23 i22).length)), (12, (.int .i64 i22)), (86, (.bool ((i22 : Int) == a_p1)))], [(37, .arr 1 39 x19.length (Q236 x19)), (75, .arr 1 3 ((Q238 l23 i22).length) (fun i => eI64 ((Q238 l23 i22).getD i (0 : Int))))], []⟩ : St) hn mix (no_hand hΓ) (by kernel_rfl) ?_
            refine awp_cond ((i22 : Int) == a_p1) (by kernel_rfl) (fun hb => ?_) (fun hb => ?_)
            · replace h := cond_t hb h
              clear hb
              obtain ⟨hc27, h⟩ := chk_some h
              refine rg [] [] (⟨[(1, (Q229 a_p1)), (5, (Q233 a_g)), (7, (Q232 x19)), (11, (.vsl 75 (Q238 l23 i22).length)), (12, (.int .i64 i22))], [(37, .arr 1 39 x19.length (Q236 x19)), (75, .arr 1 3 ((Q238 l23 i22).length) (fun i_ => AV.eraseAll Q261 ((putF (fun i => eI64 ((Q238 l23 i22).getD i (0 : Int))) (i22).toNat 0 [(.int .i64 (-1 : Int))]) i_)))], []⟩ : St) [(InB i22 (Q238 l23 i22).length), ((Q238 l23 i22).length = (Q238 l23 i22).length)] hn mix (no_hand hΓ) (by kernel_rfl) ⟨hc27, rfl, trivial⟩ ?_
              obtain rfl := Option.some.inj h
              exact ⟨rfl, Le.trans (Le.trans (le_of (st' := (⟨[(1, (Q229 a_p1)), (5, (Q233 a_g)), (7, (Q232 x19)), (11, (.vsl 75 (Q238 l23 i22).length)), (12, (.int .i64 i22))], [(37, .arr 1 39 x19.length (Q236 x19)), (75, .arr 1 3 ((Q238 l23 i22).length) (fun i => eI64 (((Q238 l23 i22).set (i22).toNat (-1 : Int)).getD i (0 : Int))))], []⟩ : St)) (TmpsLe.refl _) (.same (.arr (leL_of_eq (List.length_set ..).symm (fun k_ hk_ => (congrArg (AV.eraseAll Q261) ((putF_set (fun _ _ => rfl) (inB_lt0 hc27) rfl) k_ hk_)).trans rfl)) .nil))) (le_eq (congrArg (fun k_ : Nat => (⟨[(1, (Q229 a_p1)), (5, (Q233 a_g)), (7, (Q232 x19)), (11, (.vsl 75 k_)), (12, (.int .i64 i22))], [(37, .arr 1 39 x19.length (Q236 x19)), (75, .arr 1 3 k_ (fun i => eI64 (((Q238 l23 i22).set (i22).toNat (-1 : Int)).getD i (0 : Int))))], []⟩ : St)) (show (Q238 l23 i22).length = ((Q238 l23 i22).set (i22).toNat (-1 : Int)).length from (List.length_set ..).symm)))) (Le.refl _ _)⟩
            · replace h := cond_f hb h
              clear hb
              refine awp_skip ?_
              obtain rfl := Option.some.inj h
              exact ⟨rfl, le_restrict_eq [1, 5, 7, 11, 12] [37, 75] (by kernel_rfl) (no_hand hΓ)⟩
          · clear hx28
            rintro e st' ⟨rfl, hl29⟩
            refine then_normal ?_
            refine awp_le hl29 ?_
            refine rgs0 (⟨[(1, (Q229 a_p1)), (5, (Q233 a_g)), (7, (Q232 x19)), (11, (.vsl 75 x28.length)), (12, (.int .i64 i22)), (13, (.int .i64 (0 : Int)))], [(37, .arr 1 39 x19.length (Q236 x19)), (75, .arr 1 3 x28.length (fun i => eI64 (x28.getD i (0 : Int))))], []⟩ : St) hn mix (no_hand hΓ) (by kernel_rfl) ?_
            refine awp_block ?_
            refine awp_le (st' := (fun ((i30, l31) : (Int × List (Int))) => (⟨(Q251 a_p1 a_g x19 l31 i22 i30), (Q225 x19 l31), []⟩ : St)) ((0 : Int), x28)) (Le.refl _ _) ?_
            obtain ⟨x48, hx48, h⟩ := bind_some h
            refine awp_loop (fun ((i30, l31) : (Int × List (Int))) => (⟨(Q251 a_p1 a_g x19 l31 i22 i30), (Q225 x19 l31), []⟩ : St)) _ (fun (l32 : List (Int)) (e : Exit) (st : St) => e = (.exit 6) ∧ Le Γ st (⟨[(1, (Q229 a_p1)), (5, (Q233 a_g)), (7, (Q232 x19)), (11, (.vsl 75 l32.length)), (12, (.int .i64 i22))], [(37, .arr 1 39 x19.length (Q236 x19)), (75, .arr 1 3 l32.length (fun i => eI64 (l32.getD i (0 : Int))))], []⟩ : St)) ?_ hx48 ?_
            · rintro ⟨i30, l31⟩ y h
              unfold m_lockstepref07_Tree_L4 at h
              refine awp_seq ?_
              refine rgs [] [] (⟨[(1, (Q229 a_p1)), (5, (Q233 a_g)), (7, (Q232 x19)), (11, (.vsl 75 l31.length)), (12, (.int .i64 i22)), (13, (.int .i64 i30)), (97, (.bool (bif (Q258 i30 a_g) then ((i22 : Int) != a_p1) else false)))], (Q225 x19 l31), []⟩ : St) [(((Q258 i30 a_g) == true) = true → ((Q258 i30 a_g) == true) = true), (((Q258 i30 a_g) == true) = true → ((Q258 i30 a_g) == true) = true), ((Q258 i30 a_g) = true → ((Q258 i30 a_g) == true) = true)] hn mix (no_hand hΓ) (by kernel_rfl) ⟨(fun hg => hg), (fun hg => hg), gT, trivial⟩ ?_
              refine awp_cond (bif (Q258 i30 a_g) then ((i22 : Int) != a_p1) else false) (by kernel_rfl) (fun hb => ?_) (fun hb => ?_)
              · replace h := cond_t hb h
                clear hb
                refine awp_skip ?_
                refine then_normal ?_
                refine awp_seq ?_
                obtain ⟨x46, hx46, h⟩ := bind_some h
                refine awp_join (fun (l33 : List (Int)) (e : Exit) (st : St) => e = .normal ∧ Le Γ st (⟨[(1, (Q229 a_p1)), (5, (Q233 a_g)), (7, (Q232 x19)), (11, (.vsl 75 l33.length)), (12, (.int .i64 i22)), (13, (.int .i64 i30))], [(37, .arr 1 39 x19.length (Q236 x19)), (75, .arr 1 3 l33.length (fun i => eI64 (l33.getD i (0 : Int))))], []⟩ : St)) hx46 ?_ ?_
                · clear h hx46
                  intro y h
                  refine awp_block ?_
                  refine awp_seq ?_
                  obtain ⟨hc34, h⟩ := chk_some h
                  obtain ⟨hc35, h⟩ := chk_some h
                  refine rgs [] [] (⟨[(1, (Q229 a_p1)), (5, (Q233 a_g)), (7, (Q232 x19)), (11, (.vsl 75 l31.length)), (12, (.int .i64 i22)), (13, (.int .i64 i30)), (112, (.bool (bif ((i30 : Int) == i22) then true else (!((x19.getD (i30).toNat []).getD (i22).toNat false)))))], (Q225 x19 l31), []⟩ : St) [((Q239 i30 i22) = true → (Q239 i30 i22) = true), ((Q239 i30 i22) = true → (Q239 i30 i22) = true), ((Q239 i30 i22) = true → (InB i30 x19.length)), ((Q239 i30 i22) = true → (Q239 i30 i22) = true), ((Q239 i30 i22) = true → (x19.length = x19.length)), ((Q239 i30 i22) = true → (Q239 i30 i22) = true), ((Q239 i30 i22) = true → (Q239 i30 i22) = true), ((Q239 i30 i22) = true → (InB i22 (x19.getD (i30).toNat []).length)), ((Q239 i30 i22) = true → (Q239 i30 i22) = true), ((Q239 i30 i22) = true → (Q239 i30 i22) = true), (((i30 : Int) == i22) = false → (Q239 i30 i22) = true)] hn mix (no_hand hΓ) (by kernel_rfl) ⟨(fun hg => hg), (fun hg => hg), (fun hg => (hc34 hg)), (fun hg => hg), (fun hg => rfl), (fun hg => hg), (fun hg => hg), (fun hg => (hc35 hg)), (fun hg => hg), (fun hg => hg), gF, trivial⟩ ?_
                  refine awp_cond (bif ((i30 : Int) == i22) then true else (!((x19.getD (i30).toNat []).getD (i22).toNat false))) (by kernel_rfl) (fun hb => ?_) (fun hb => ?_)
                  · replace h := cond_t hb h
                    clear hb
                    refine awp_exit ?_
                    refine then_exit ?_
                    refine block_here ?_
                    obtain rfl := Option.some.inj h
                    exact ⟨rfl, le_restrict_eq [1, 5, 7, 11, 12, 13] [37, 75] (by kernel_rfl) (no_hand hΓ)⟩
                  · replace h := cond_f hb h
                    clear hb
                    refine awp_skip ?_
                    refine then_normal ?_
                    refine rgs0 (⟨[(1, (Q229 a_p1)), (5, (Q233 a_g)), (7, (Q232 x19)), (11, (.vsl 75 l31.length)), (12, (.int .i64 i22)), (13, (.int .i64 i30)), (14, (.bool true))], (Q225 x19 l31), []⟩ : St) hn mix (no_hand hΓ) (by kernel_rfl) ?_
                    refine awp_seq ?_
                    refine rgs0 (⟨[(1, (Q229 a_p1)), (5, (Q233 a_g)), (7, (Q232 x19)), (11, (.vsl 75 l31.length)), (12, (.int .i64 i22)), (13, (.int .i64 i30)), (14, (.bool true)), (15, (.int .i64 (0 : Int)))], (Q225 x19 l31), []⟩ : St) hn mix (no_hand hΓ) (by kernel_rfl) ?_
                    refine awp_block ?_
                    refine awp_le (st' := (fun ((b36, i37) : (Bool × Int)) => (⟨[(1, (Q229 a_p1)), (5, (Q233 a_g)), (7, (Q232 x19)), (11, (.vsl 75 l31.length)), (12, (.int .i64 i22)), (13, (.int .i64 i30)), (14, (.bool b36)), (15, (.int .i64 i37))], (Q225 x19 l31), []⟩ : St)) (true, (0 : Int))) (Le.refl _ _) ?_
                    obtain ⟨x43, hx43, h⟩ := bind_some h
                    refine awp_loop (fun ((b36, i37) : (Bool × Int)) => (⟨[(1, (Q229 a_p1)), (5, (Q233 a_g)), (7, (Q232 x19)), (11, (.vsl 75 l31.length)), (12, (.int .i64 i22)), (13, (.int .i64 i30)), (14, (.bool b36)), (15, (.int .i64 i37))], (Q225 x19 l31), []⟩ : St)) _ (fun (b38 : Bool) (e : Exit) (st : St) => e = (.exit 8) ∧ Le Γ st (⟨[(1, (Q229 a_p1)), (5, (Q233 a_g)), (7, (Q232 x19)), (11, (.vsl 75 l31.length)), (12, (.int .i64 i22)), (13, (.int .i64 i30)), (14, (.bool b38))], (Q225 x19 l31), []⟩ : St)) ?_ hx43 ?_
                    · rintro ⟨b36, i37⟩ y h
                      unfold m_lockstepref07_Tree_L3 at h
                      refine awp_seq ?_
                      refine rgs0 (⟨[(1, (Q229 a_p1)), (5, (Q233 a_g)), (7, (Q232 x19)), (11, (.vsl 75 l31.length)), (12, (.int .i64 i22)), (13, (.int .i64 i30)), (14, (.bool b36)), (15, (.int .i64 i37)), (115, (.bool (decide ((i37 : Int) < (Q222 a_g)))))], (Q225 x19 l31), []⟩ : St) hn mix (no_hand hΓ) (by kernel_rfl) ?_
                      refine awp_cond (decide ((i37 : Int) < (Q222 a_g))) (by kernel_rfl) (fun hb => ?_) (fun hb => ?_)
                      · replace h := cond_t hb h
                        clear hb
                        refine awp_skip ?_
                        refine then_normal ?_
                        refine awp_seq ?_
                        refine awp_block ?_
                        obtain ⟨hc39, h⟩ := chk_some h
                        obtain ⟨hc40, h⟩ := chk_some h
                        obtain ⟨hc41, h⟩ := chk_some h
                        obtain ⟨hc42, h⟩ := chk_some h
                        refine rg [] [] (⟨[(1, (Q229 a_p1)), (5, (Q233 a_g)), (7, (Q232 x19)), (11, (.vsl 75 l31.length)), (12, (.int .i64 i22)), (13, (.int .i64 i30)), (14, (Q257 b36 i37 i22 x19 i30)), (15, (.int .i64 i37))], (Q225 x19 l31), []⟩ : St) [((b36 == true) = true → (b36 == true) = true), ((b36 == true) = true → (b36 == true) = true), ((b36 == true) = true → (b36 == true) = true), ((Q227 b36 i37 i22) = true → (Q227 b36 i37 i22) = true), ((Q227 b36 i37 i22) = true → (Q227 b36 i37 i22) = true), ((Q227 b36 i37 i22) = true → (InB i37 x19.length)), ((Q227 b36 i37 i22) = true → (Q227 b36 i37 i22) = true), ((Q227 b36 i37 i22) = true → (x19.length = x19.length)), ((Q227 b36 i37 i22) = true → (Q227 b36 i37 i22) = true), ((Q227 b36 i37 i22) = true → (Q227 b36 i37 i22) = true), ((Q227 b36 i37 i22) = true → (InB i22 (x19.getD (i37).toNat []).length)), ((Q227 b36 i37 i22) = true → (Q227 b36 i37 i22) = true), ((Q227 b36 i37 i22) = true → (Q227 b36 i37 i22) = true), ((b36 == true) = true → (b36 == true) = true), ((b36 == true) = true → (((i37 : Int) == i22) = false → (Q227 b36 i37 i22) = true)), ((b36 == true) = true → (b36 == true) = true), ((Q223 b36 i37 i22 x19) = true → (Q223 b36 i37 i22 x19) = true), ((Q223 b36 i37 i22 x19) = true → (Q223 b36 i37 i22 x19) = true), ((Q223 b36 i37 i22 x19) = true → (InB i37 x19.length)), ((Q223 b36 i37 i22 x19) = true → (Q223 b36 i37 i22 x19) = true), ((Q223 b36 i37 i22 x19) = true → (x19.length = x19.length)), ((Q223 b36 i37 i22 x19) = true → (Q223 b36 i37 i22 x19) = true), ((Q223 b36 i37 i22 x19) = true → (Q223 b36 i37 i22 x19) = true), ((Q223 b36 i37 i22 x19) = true → (InB i30 (x19.getD (i37).toNat []).length)), ((Q223 b36 i37 i22 x19) = true → (Q223 b36 i37 i22 x19) = true), ((b36 == true) = true → (b36 == true) = true), ((b36 == true) = true → ((bif ((i37 : Int) == i22) then true else (!((x19.getD (i37).toNat []).getD (i22).toNat false))) = false → (Q223 b36 i37 i22 x19) = true)), (b36 = true → (b36 == true) = true)] hn mix (no_hand hΓ) (by kernel_rfl) ⟨(fun hg => hg), (fun hg => hg), (fun hg => hg), (fun hg => hg), (fun hg => hg), (fun hg => (hc39 hg)), (fun hg => hg), (fun hg => rfl), (fun hg => hg), (fun hg => hg), (fun hg => (hc40 hg)), (fun hg => hg), (fun hg => hg), (fun hg => hg), (fun hg => (aF hg)), (fun hg => hg), (fun hg => hg), (fun hg => hg), (fun hg => (hc41 hg)), (fun hg => hg), (fun hg => rfl), (fun hg => hg), (fun hg => hg), (fun hg => (hc42 hg)), (fun hg => hg), (fun hg => hg), (fun hg => (aF hg)), gT, trivial⟩ ?_
                        refine block_normal ?_
                        refine then_normal ?_
                        refine rg0 (⟨[(1, (Q229 a_p1)), (5, (Q233 a_g)), (7, (Q232 x19)), (11, (.vsl 75 l31.length)), (12, (.int .i64 i22)), (13, (.int .i64 i30)), (14, (Q257 b36 i37 i22 x19 i30)), (15, (.int .i64 (w64 (i37 + (1 : Int)))))], (Q225 x19 l31), []⟩ : St) hn mix (no_hand hΓ) (by kernel_rfl) ?_
                        obtain rfl := Option.some.inj h
                        exact ⟨rfl, Le.refl _ _⟩
                      · replace h := cond_f hb h
                        clear hb
                        refine awp_exit ?_
                        refine then_exit ?_
                        obtain rfl := Option.some.inj h
                        exact ⟨(by intro hh; cases hh), rfl, le_restrict_eq [1, 5, 7, 11, 12, 13, 14] [37, 75] (by kernel_rfl) (no_hand hΓ)⟩
                    · clear hx43
                      rintro e st' ⟨rfl, hl44⟩
                      refine block_here ?_
                      refine then_normal ?_
                      refine awp_le hl44 ?_
                      refine rgs0 (⟨[(1, (Q229 a_p1)), (5, (Q233 a_g)), (7, (Q232 x19)), (11, (.vsl 75 l31.length)), (12, (.int .i64 i22)), (13, (.int .i64 i30)), (143, (.bool x43))], (Q225 x19 l31), []⟩ : St) hn mix (no_hand hΓ) (by kernel_rfl) ?_
                      refine awp_cond x43 (by kernel_rfl) (fun hb => ?_) (fun hb => ?_)
                      · replace h := cond_t hb h
                        clear hb
                        obtain ⟨hc45, h⟩ := chk_some h
                        refine rg [] [] (⟨(Q251 a_p1 a_g x19 l31 i22 i30), [(37, .arr 1 39 x19.length (Q236 x19)), (75, .arr 1 3 l31.length (fun i_ => AV.eraseAll Q261 ((putF (fun i => eI64 (l31.getD i (0 : Int))) (i22).toNat 0 [(.int .i64 i30)]) i_)))], []⟩ : St) [(InB i22 l31.length), (l31.length = l31.length)] hn mix (no_hand hΓ) (by kernel_rfl) ⟨hc45, rfl, trivial⟩ ?_
                        refine block_normal ?_
                        obtain rfl := Option.some.inj h
                        exact ⟨rfl, Le.trans (Le.trans (le_of (st' := (⟨(Q251 a_p1 a_g x19 l31 i22 i30), [(37, .arr 1 39 x19.length (Q236 x19)), (75, .arr 1 3 l31.length (fun i => eI64 ((l31.set (i22).toNat i30).getD i (0 : Int))))], []⟩ : St)) (TmpsLe.refl _) (.same (.arr (leL_of_eq (List.length_set ..).symm (fun k_ hk_ => (congrArg (AV.eraseAll Q261) ((putF_set (fun _ _ => rfl) (inB_lt0 hc45) rfl) k_ hk_)).trans rfl)) .nil))) (le_eq (congrArg (fun k_ : Nat => (⟨[(1, (Q229 a_p1)), (5, (Q233 a_g)), (7, (Q232 x19)), (11, (.vsl 75 k_)), (12, (.int .i64 i22)), (13, (.int .i64 i30))], [(37, .arr 1 39 x19.length (Q236 x19)), (75, .arr 1 3 k_ (fun i => eI64 ((l31.set (i22).toNat i30).getD i (0 : Int))))], []⟩ : St)) (show l31.length = (l31.set (i22).toNat i30).length from (List.length_set ..).symm)))) (Le.refl _ _)⟩
                      · replace h := cond_f hb h
                        clear hb
                        refine awp_skip ?_
                        refine block_normal ?_
                        obtain rfl := Option.some.inj h
                        exact ⟨rfl, le_restrict_eq [1, 5, 7, 11, 12, 13] [37, 75] (by kernel_rfl) (no_hand hΓ)⟩
                · clear hx46
                  rintro e st' ⟨rfl, hl47⟩
                  refine then_normal ?_
                  refine awp_le hl47 ?_
                  refine rg0 (⟨[(1, (Q229 a_p1)), (5, (Q233 a_g)), (7, (Q232 x19)), (11, (.vsl 75 x46.length)), (12, (.int .i64 i22)), (13, (.int .i64 (w64 (i30 + (1 : Int)))))], [(37, .arr 1 39 x19.length (Q236 x19)), (75, .arr 1 3 x46.length (fun i => eI64 (x46.getD i (0 : Int))))], []⟩ : St) hn mix (no_hand hΓ) (by kernel_rfl) ?_
                  obtain rfl := Option.some.inj h
                  exact ⟨rfl, Le.refl _ _⟩
              · replace h := cond_f hb h
                clear hb
                refine awp_exit ?_
                refine then_exit ?_
                obtain rfl := Option.some.inj h
                exact ⟨(by intro hh; cases hh), rfl, le_restrict_eq [1, 5, 7, 11, 12] [37, 75] (by kernel_rfl) (no_hand hΓ)⟩
            · clear hx48
              rintro e st' ⟨rfl, hl49⟩
              refine block_here ?_
              refine block_normal ?_
              refine then_normal ?_
              refine awp_le hl49 ?_
              refine rg0 (⟨[(1, (Q229 a_p1)), (5, (Q233 a_g)), (7, (Q232 x19)), (11, (.vsl 75 x48.length)), (12, (.int .i64 (w64 (i22 + (1 : Int)))))], [(37, .arr 1 39 x19.length (Q236 x19)), (75, .arr 1 3 x48.length (fun i => eI64 (x48.getD i (0 : Int))))], []⟩ : St) hn mix (no_hand hΓ) (by kernel_rfl) ?_
              obtain rfl := Option.some.inj h
              exact ⟨rfl, Le.refl _ _⟩
        · replace h := cond_f hb h
          clear hb
          refine awp_exit ?_
          refine then_exit ?_
          obtain rfl := Option.some.inj h
          exact ⟨(by intro hh; cases hh), rfl, le_restrict_eq [11] [75] (by kernel_rfl) (no_hand hΓ)⟩
      · clear hx50
        rintro e st' ⟨rfl, hl51⟩
        refine block_here ?_
        refine then_normal ?_
        refine awp_le hl51 ?_
        refine rgs0 (⟨[(4, (.vsl 75 x50.length))], [(75, .arr 1 3 x50.length (fun i => eI64 (x50.getD i (0 : Int))))], []⟩ : St) hn mix (no_hand hΓ) (by kernel_rfl) ?_
        refine awp_le (Le.trans (le_freeze (nm := 75) (sz := 1) (n := x50.length) (e := 3) (f := (fun i => eI64 (x50.getD i (0 : Int)))) (g := (fun i => eI64 (x50.getD i (0 : Int)))) rfl ⟨rfl, trivial⟩ (fun _ _ => rfl) (by rw [hΓ]; rfl)) (le_eq (st' := (⟨[(4, (AV.list 1 eI64 (0 : Int) x50 (.own 75)))], [(75, .tok 1 3 x50.length)], []⟩ : St)) (by kernel_rfl))) ?_
        refine awp_ret ?_
        obtain rfl := Option.some.inj h
        exact ⟨.inl rfl, [(75, 20000)], by kernel_rfl⟩

noncomputable def m_lockstepref07_Path_L1 (a_tree : List (Int)) : (Int × List (Int)) → Option (LR (Int × List (Int)) (Unit ⊕ List (Int))) :=
  fun ((i1, l2) : (Int × List (Int))) => (bif (bif (bif (decide (((l2.length : Int) : Int) < (a_tree.length : Int))) then (decide (((0 : Int) : Int) ≤ i1)) else false) then (decide ((i1 : Int) < (a_tree.length : Int))) else false) then (chk (l2.length + ([i1] : List (Int)).length ≤ room) (chk (InB i1 a_tree.length) (bif (((a_tree.getD (i1).toNat (0 : Int)) : Int) == (-1 : Int)) then (some (.done (.inr (l2 ++ ([i1] : List (Int)))))) else (chk (InB i1 a_tree.length) (some (.next ((a_tree.getD (i1).toNat (0 : Int)), (l2 ++ ([i1] : List (Int)))))))))) else (some (.done (.inl ()))))
noncomputable def Q271 (a_tree : List (Int)) : AV := (AV.list 1 eI64 (0 : Int) a_tree .none)
noncomputable def Q269 : AV := (AV.list 1 eI64 (0 : Int) ([] : List Int) .exact)
noncomputable def Q272 (l2 : List (Int)) (i1 : Int) : List (Nat × Own) := [(5005, .tok 1 3 ((l2 ++ ([i1] : List (Int))).length))]
noncomputable def Q274 (l2 : List (Int)) (a_tree : List (Int)) := (decide (((l2.length : Int) : Int) < (a_tree.length : Int)))
noncomputable def Q270 (l2 : List (Int)) (i1 : Int) : AV := (AV.list 1 eI64 (0 : Int) (l2 ++ ([i1] : List (Int))) (.own 5005))
noncomputable def Q268 (l2 : List (Int)) (a_tree : List (Int)) (i1 : Int) := (bif (Q274 l2 a_tree) then (decide (((0 : Int) : Int) ≤ i1)) else false)
noncomputable def Q273 := (⟨[(4, (AV.list 1 eI64 (0 : Int) ([] : List Int) (.own 6004)))], [(6004, .tok 1 3 (([] : List Int).length))], []⟩ : St)
noncomputable def m_lockstepref07_Path (a_tree : List (Int)) (a_a : Int) : Option (List (Int)) :=
  ((loopO (S := (Int × List (Int))) (X := (Unit ⊕ List (Int))) (m_lockstepref07_Path_L1 a_tree) (a_a, ([] : List Int))).bind (fun x6 => (match x6 with | (.inl _) => (some ([] : List Int)) | (.inr r8) => (some r8))))
theorem ok_lockstepref07_Path (a_tree : List (Int)) (a_a : Int) (r : List (Int)) (h : m_lockstepref07_Path a_tree a_a = some r) : Spec Try.prog 31 [(AV.list 1 eI64 (0 : Int) a_tree .none), (.int .i64 a_a)] [] (AV.list 1 eI64 (0 : Int) r (.own 20000)) [(20000, .tok 1 3 r.length)] := by
  refine spec_of_awp (fn := Try.f31) Try.func31 rfl rfl (by kernel_rfl) (fun Γ hn hΓ => ?_)
  have hn : Γ.n = 35 := hn
  unfold m_lockstepref07_Path at h
  refine rgs [] [(4, Q269)] (⟨[(0, (Q271 a_tree)), (1, (.int .i64 a_a))], [], []⟩ : St) [(AVle (.slice 0 0 (fun _ => []) .exact) Q269)] hn mix (no_hand hΓ) (by kernel_rfl) ⟨av_nil, trivial⟩ ?_
  refine rgs [] [(5, Q269)] (⟨[(0, (Q271 a_tree)), (1, (.int .i64 a_a)), (5, Q269)], [], []⟩ : St) [(AVle (.slice 0 0 (fun _ => []) .exact) Q269)] hn mix (no_hand hΓ) (by kernel_rfl) ⟨av_nil, trivial⟩ ?_
  refine awp_seq ?_
  refine awp_block ?_
  refine awp_le (st' := (fun ((i1, l2) : (Int × List (Int))) => (⟨[(0, (Q271 a_tree)), (1, (.int .i64 i1)), (5, (AV.list 1 eI64 (0 : Int) l2 (.own 5005)))], [(5005, .tok 1 3 l2.length)], []⟩ : St)) (a_a, ([] : List Int))) (Le.trans (le_restrict_eq (st' := (⟨[(0, (Q271 a_tree)), (1, (.int .i64 a_a)), (5, Q269)], [], []⟩ : St)) [0, 1, 5] [] (by kernel_rfl) (no_hand hΓ)) (Le.trans (le_tag (t := 5) (nm := 5005) (sz' := 1) (fun i => eI64 (([] : List Int).getD i (0 : Int))) 3 rfl rfl (.inl ⟨rfl, rfl⟩) (fun h_ => absurd h_ (by decide))) (le_restrict_eq (st' := (⟨[(0, (Q271 a_tree)), (1, (.int .i64 a_a)), (5, (AV.list 1 eI64 (0 : Int) ([] : List Int) (.own 5005)))], [(5005, .tok 1 3 (([] : List Int).length))], []⟩ : St)) [0, 1, 5] [5005] (by kernel_rfl) (no_hand hΓ)))) ?_
  obtain ⟨x6, hx6, h⟩ := bind_some h
  refine awp_loop (fun ((i1, l2) : (Int × List (Int))) => (⟨[(0, (Q271 a_tree)), (1, (.int .i64 i1)), (5, (AV.list 1 eI64 (0 : Int) l2 (.own 5005)))], [(5005, .tok 1 3 l2.length)], []⟩ : St)) _ (fun (x_ : (Unit ⊕ List (Int))) (e : Exit) (st : St) => match x_ with | (.inl _) => e = (.exit 0) ∧ Le Γ st (⟨[], [], []⟩ : St) | (.inr r_) => e = .ret ∧ retK Try.prog Try.f31.results.toList [] (AV.list 1 eI64 (0 : Int) r_ (.own 20000)) [(20000, .tok 1 3 r_.length)] e st) ?_ hx6 ?_
  · rintro ⟨i1, l2⟩ y h
    unfold m_lockstepref07_Path_L1 at h
    refine awp_seq ?_
    refine rgs [] [] (⟨[(0, (Q271 a_tree)), (1, (.int .i64 i1)), (5, (AV.list 1 eI64 (0 : Int) l2 (.own 5005))), (20, (.bool (bif (Q268 l2 a_tree i1) then (decide ((i1 : Int) < (a_tree.length : Int))) else false)))], [(5005, .tok 1 3 l2.length)], []⟩ : St) [(((Q274 l2 a_tree) == true) = true → ((Q274 l2 a_tree) == true) = true), ((Q274 l2 a_tree) = true → ((Q274 l2 a_tree) == true) = true), (((Q268 l2 a_tree i1) == true) = true → ((Q268 l2 a_tree i1) == true) = true), (((Q268 l2 a_tree i1) == true) = true → ((Q268 l2 a_tree i1) == true) = true), (((Q268 l2 a_tree i1) == true) = true → ((Q268 l2 a_tree i1) == true) = true), ((Q268 l2 a_tree i1) = true → ((Q268 l2 a_tree i1) == true) = true)] hn mix (no_hand hΓ) (by kernel_rfl) ⟨(fun hg => hg), gT, (fun hg => hg), (fun hg => hg), (fun hg => hg), gT, trivial⟩ ?_
    refine awp_cond (bif (Q268 l2 a_tree i1) then (decide ((i1 : Int) < (a_tree.length : Int))) else false) (by kernel_rfl) (fun hb => ?_) (fun hb => ?_)
    · replace h := cond_t hb h
      clear hb
      refine awp_skip ?_
      refine then_normal ?_
      refine awp_block ?_
      obtain ⟨hc3, h⟩ := chk_some h
      refine rgs [] [(23, (AV.list 1 eI64 (0 : Int) ([i1] : List (Int)) .exact)), (24, (Q270 l2 i1))] (⟨[(0, (Q271 a_tree)), (1, (.int .i64 i1)), (5, (Q270 l2 i1))], (Q272 l2 i1), []⟩ : St) [(AVle (.slice 1 1 (fun i => ([[(.int .i64 i1)]] : List (List AV)).getD i []) .exact) (AV.list 1 eI64 (0 : Int) ([i1] : List (Int)) .exact)), (l2.length = l2.length), (l2.length + ([i1] : List (Int)).length ≤ room), (AVle (.slice 1 (l2.length + ([i1] : List (Int)).length) (appF l2.length (fun i => eI64 (l2.getD i (0 : Int))) (fun i => eI64 (([i1] : List (Int)).getD i (0 : Int)))) (.own 5005)) (Q270 l2 i1)), (l2.length + ([i1] : List (Int)).length = (l2 ++ ([i1] : List (Int))).length)] hn mix (no_hand hΓ) (by kernel_rfl) ⟨(av_lit rfl (fun i hi => map_get (e := eI64) (d := (0 : Int)) ([i1] : List (Int)) i hi)), rfl, hc3, av_app, (len_app _ _), trivial⟩ ?_
      refine awp_seq ?_
      obtain ⟨hc4, h⟩ := chk_some h
      refine rgs [] [] (⟨[(0, (Q271 a_tree)), (1, (.int .i64 i1)), (5, (Q270 l2 i1)), (29, (.bool (((a_tree.getD (i1).toNat (0 : Int)) : Int) == (-1 : Int))))], (Q272 l2 i1), []⟩ : St) [(InB i1 a_tree.length)] hn mix (no_hand hΓ) (by kernel_rfl) ⟨hc4, trivial⟩ ?_
      refine awp_cond (((a_tree.getD (i1).toNat (0 : Int)) : Int) == (-1 : Int)) (by kernel_rfl) (fun hb => ?_) (fun hb => ?_)
      · replace h := cond_t hb h
        clear hb
        refine rgs0 (⟨[(4, (Q270 l2 i1))], (Q272 l2 i1), []⟩ : St) hn mix (no_hand hΓ) (by kernel_rfl) ?_
        refine awp_ret ?_
        refine then_ret ?_
        refine block_ret ?_
        obtain rfl := Option.some.inj h
        exact ⟨(by intro hh; cases hh), rfl, ⟨.inl rfl, [(5005, 20000)], by kernel_rfl⟩⟩
      · replace h := cond_f hb h
        clear hb
        refine awp_skip ?_
        refine then_normal ?_
        obtain ⟨hc5, h⟩ := chk_some h
        refine rg [] [] (⟨[(0, (Q271 a_tree)), (1, (.int .i64 (a_tree.getD (i1).toNat (0 : Int)))), (5, (Q270 l2 i1))], (Q272 l2 i1), []⟩ : St) [(InB i1 a_tree.length)] hn mix (no_hand hΓ) (by kernel_rfl) ⟨hc5, trivial⟩ ?_
        refine block_normal ?_
        obtain rfl := Option.some.inj h
        exact ⟨rfl, Le.refl _ _⟩
    · replace h := cond_f hb h
      clear hb
      refine awp_exit ?_
      refine then_exit ?_
      obtain rfl := Option.some.inj h
      exact ⟨(by intro hh; cases hh), rfl, le_restrict_eq [] [] (by kernel_rfl) (no_hand hΓ)⟩
  · clear hx6
    rcases x6 with _ | r8
    · rintro e st' ⟨rfl, hl7⟩
      refine block_here ?_
      refine then_normal ?_
      refine awp_le hl7 ?_
      refine rgs [] [(4, Q269)] (⟨[(4, Q269)], [], []⟩ : St) [(AVle (.slice 0 0 (fun _ => []) .exact) Q269)] hn mix (no_hand hΓ) (by kernel_rfl) ⟨av_nil, trivial⟩ ?_
      refine awp_le (st' := Q273) (Le.trans (le_restrict_eq (st' := (⟨[(4, Q269)], [], []⟩ : St)) [4] [] (by kernel_rfl) (no_hand hΓ)) (Le.trans (le_tag (t := 4) (nm := 6004) (sz' := 1) (fun i => eI64 (([] : List Int).getD i (0 : Int))) 3 rfl rfl (.inl ⟨rfl, rfl⟩) (fun h_ => absurd h_ (by decide))) (le_restrict_eq (st' := Q273) [4] [6004] (by kernel_rfl) (no_hand hΓ)))) ?_
      refine awp_ret ?_
      obtain rfl := Option.some.inj h
      exact ⟨.inl rfl, [(6004, 20000)], by kernel_rfl⟩
    · rintro e st' ⟨rfl, hk⟩
      refine block_ret ?_
      refine then_ret ?_
      obtain rfl := Option.some.inj h
      exact hk

noncomputable def m_lockstepref07_Right_L1 (a_tree : List (Int)) : (Int × Int) → Option (LR (Int × Int) (Int ⊕ Bool)) :=
  fun ((i1, i2) : (Int × Int)) => (bif (decide ((i2 : Int) < (a_tree.length : Int))) then (Option.bind (α := Int) (chk (InB i2 a_tree.length) (bif (((a_tree.getD (i2).toNat (0 : Int)) : Int) == (-1 : Int)) then (some ((w64 (i1 + (1 : Int))))) else (some (i1)))) (fun x6 => ((chk (InB i2 a_tree.length) ((bif ((((a_tree.getD (i2).toNat (0 : Int)) : Int) != (-2 : Int)) == true) then m_lockstepref07_Path a_tree i2 else some []).bind fun x9 => (bif (bif (((a_tree.getD (i2).toNat (0 : Int)) : Int) != (-2 : Int)) then (((x9.length : Int) : Int) == (0 : Int)) else false) then (some (.done (.inr false))) else (some (.next (x6, (w64 (i2 + (1 : Int)))))))))))) else (some (.done (.inl i1))))
noncomputable def Q276 (a_tree : List (Int)) : AV := (AV.list 1 eI64 (0 : Int) a_tree .none)
noncomputable def Q275 (a_tree : List (Int)) (i2 : Int) := (((a_tree.getD (i2).toNat (0 : Int)) : Int) != (-2 : Int))
noncomputable def m_lockstepref07_Right (a_tree : List (Int)) : Option Bool :=
  ((loopO (S := (Int × Int)) (X := (Int ⊕ Bool)) (m_lockstepref07_Right_L1 a_tree) ((0 : Int), (0 : Int))).bind (fun x10 => (match x10 with | (.inl i3) => (some ((i3 : Int) == (1 : Int))) | (.inr r12) => (some r12))))
theorem ok_lockstepref07_Right (a_tree : List (Int)) (r : Bool) (h : m_lockstepref07_Right a_tree = some r) : Spec Try.prog 30 [(AV.list 1 eI64 (0 : Int) a_tree .none)] [] (.bool r) [] := by
  refine spec_of_awp (fn := Try.f30) Try.func30 rfl rfl (by kernel_rfl) (fun Γ hn hΓ => ?_)
  have hn : Γ.n = 32 := hn
  unfold m_lockstepref07_Right at h
  refine rgs0 (⟨[(0, (Q276 a_tree))], [], []⟩ : St) hn mix (no_hand hΓ) (by kernel_rfl) ?_
  refine rgs0 (⟨[(0, (Q276 a_tree)), (3, (.int .i64 (0 : Int)))], [], []⟩ : St) hn mix (no_hand hΓ) (by kernel_rfl) ?_
  refine awp_seq ?_
  refine rgs0 (⟨[(0, (Q276 a_tree)), (3, (.int .i64 (0 : Int))), (4, (.int .i64 (0 : Int)))], [], []⟩ : St) hn mix (no_hand hΓ) (by kernel_rfl) ?_
  refine awp_block ?_
  refine awp_le (st' := (fun ((i1, i2) : (Int × Int)) => (⟨[(0, (Q276 a_tree)), (3, (.int .i64 i1)), (4, (.int .i64 i2))], [], []⟩ : St)) ((0 : Int), (0 : Int))) (Le.refl _ _) ?_
  obtain ⟨x10, hx10, h⟩ := bind_some h
  refine awp_loop (fun ((i1, i2) : (Int × Int)) => (⟨[(0, (Q276 a_tree)), (3, (.int .i64 i1)), (4, (.int .i64 i2))], [], []⟩ : St)) _ (fun (x_ : (Int ⊕ Bool)) (e : Exit) (st : St) => match x_ with | (.inl i3) => e = (.exit 0) ∧ Le Γ st (⟨[(3, (.int .i64 i3))], [], []⟩ : St) | (.inr r_) => e = .ret ∧ retK Try.prog Try.f30.results.toList [] (.bool r_) [] e st) ?_ hx10 ?_
  · rintro ⟨i1, i2⟩ y h
    unfold m_lockstepref07_Right_L1 at h
    refine awp_seq ?_
    refine rgs0 (⟨[(0, (Q276 a_tree)), (3, (.int .i64 i1)), (4, (.int .i64 i2)), (8, (.bool (decide ((i2 : Int) < (a_tree.length : Int)))))], [], []⟩ : St) hn mix (no_hand hΓ) (by kernel_rfl) ?_
    refine awp_cond (decide ((i2 : Int) < (a_tree.length : Int))) (by kernel_rfl) (fun hb => ?_) (fun hb => ?_)
    · replace h := cond_t hb h
      clear hb
      refine awp_skip ?_
      refine then_normal ?_
      refine awp_seq ?_
      refine awp_block ?_
      refine awp_seq ?_
      obtain ⟨x6, hx6, h⟩ := bind_some h
      refine awp_join (fun (i4 : Int) (e : Exit) (st : St) => e = .normal ∧ Le Γ st (⟨[(0, (Q276 a_tree)), (3, (.int .i64 i4)), (4, (.int .i64 i2))], [], []⟩ : St)) hx6 ?_ ?_
      · clear h hx6
        intro y h
        obtain ⟨hc5, h⟩ := chk_some h
        refine rgs [] [] (⟨[(0, (Q276 a_tree)), (3, (.int .i64 i1)), (4, (.int .i64 i2)), (15, (.bool (((a_tree.getD (i2).toNat (0 : Int)) : Int) == (-1 : Int))))], [], []⟩ : St) [(InB i2 a_tree.length)] hn mix (no_hand hΓ) (by kernel_rfl) ⟨hc5, trivial⟩ ?_
        refine awp_cond (((a_tree.getD (i2).toNat (0 : Int)) : Int) == (-1 : Int)) (by kernel_rfl) (fun hb => ?_) (fun hb => ?_)
        · replace h := cond_t hb h
          clear hb
          refine rg0 (⟨[(0, (Q276 a_tree)), (3, (.int .i64 (w64 (i1 + (1 : Int))))), (4, (.int .i64 i2))], [], []⟩ : St) hn mix (no_hand hΓ) (by kernel_rfl) ?_
          obtain rfl := Option.some.inj h
          exact ⟨rfl, Le.refl _ _⟩
        · replace h := cond_f hb h
          clear hb
          refine awp_skip ?_
          obtain rfl := Option.some.inj h
          exact ⟨rfl, le_restrict_eq [0, 3, 4] [] (by kernel_rfl) (no_hand hΓ)⟩
      · clear hx6
        rintro e st' ⟨rfl, hl7⟩
        refine then_normal ?_
        refine awp_le hl7 ?_
        obtain ⟨hc8, h⟩ := chk_some h
        obtain ⟨x9, hx9, h⟩ := bind_some h
        refine rgs [⟨[], [], (AV.list 1 eI64 (0 : Int) x9 .none), []⟩] [] (⟨[(0, (Q276 a_tree)), (3, (.int .i64 x6)), (4, (.int .i64 i2)), (29, (.bool (bif (Q275 a_tree i2) then (((x9.length : Int) : Int) == (0 : Int)) else false)))], [], []⟩ : St) [(InB i2 a_tree.length), (((Q275 a_tree i2) == true) = true → ((Q275 a_tree i2) == true) = true), (((Q275 a_tree i2) == true) = true → ((Q275 a_tree i2) == true) = true), (((Q275 a_tree i2) == true) = true → (Spec Try.prog 31 [(Q276 a_tree), (.int .i64 i2)] [] (AV.list 1 eI64 (0 : Int) x9 .none) [])), (((Q275 a_tree i2) == true) = true → ((Q275 a_tree i2) == true) = true), (((Q275 a_tree i2) == true) = true → ((Q275 a_tree i2) == true) = true), ((Q275 a_tree i2) = true → ((Q275 a_tree i2) == true) = true)] hn mix (no_hand hΓ) (by kernel_rfl) ⟨hc8, (fun hg => hg), (fun hg => hg), (fun hg => (Spec.drop (ok_lockstepref07_Path a_tree i2 x9 (cond_t hg hx9)))), (fun hg => hg), (fun hg => hg), gT, trivial⟩ ?_
        refine awp_cond (bif (Q275 a_tree i2) then (((x9.length : Int) : Int) == (0 : Int)) else false) (by kernel_rfl) (fun hb => ?_) (fun hb => ?_)
        · replace h := cond_t hb h
          clear hb
          refine rgs0 (⟨[(2, (.bool false))], [], []⟩ : St) hn mix (no_hand hΓ) (by kernel_rfl) ?_
          refine awp_ret ?_
          refine block_ret ?_
          refine then_ret ?_
          obtain rfl := Option.some.inj h
          exact ⟨(by intro hh; cases hh), rfl, ⟨.inl rfl, [], by kernel_rfl⟩⟩
        · replace h := cond_f hb h
          clear hb
          refine awp_skip ?_
          refine block_normal ?_
          refine then_normal ?_
          refine rg0 (⟨[(0, (Q276 a_tree)), (3, (.int .i64 x6)), (4, (.int .i64 (w64 (i2 + (1 : Int)))))], [], []⟩ : St) hn mix (no_hand hΓ) (by kernel_rfl) ?_
          obtain rfl := Option.some.inj h
          exact ⟨rfl, Le.refl _ _⟩
    · replace h := cond_f hb h
      clear hb
      refine awp_exit ?_
      refine then_exit ?_
      obtain rfl := Option.some.inj h
      exact ⟨(by intro hh; cases hh), rfl, le_restrict_eq [3] [] (by kernel_rfl) (no_hand hΓ)⟩
  · clear hx10
    rcases x10 with i3 | r12
    · rintro e st' ⟨rfl, hl11⟩
      refine block_here ?_
      refine then_normal ?_
      refine awp_le hl11 ?_
      refine rgs0 (⟨[(2, (.bool ((i3 : Int) == (1 : Int))))], [], []⟩ : St) hn mix (no_hand hΓ) (by kernel_rfl) ?_
      refine awp_ret ?_
      obtain rfl := Option.some.inj h
      exact ⟨.inl rfl, [], by kernel_rfl⟩
    · rintro e st' ⟨rfl, hk⟩
      refine block_ret ?_
      refine then_ret ?_
      obtain rfl := Option.some.inj h
      exact hk

noncomputable def m_lockstepref07_Meet_L1 (x2 : List (Int)) (x3 : List (Int)) : Int → Option (LR Int (Unit ⊕ Int)) :=
  fun (i4 : Int) => (bif (decide ((i4 : Int) < (x2.length : Int))) then (chk (InB i4 x2.length) ((m_lockstepref06_Has x3 (x2.getD (i4).toNat (0 : Int))).bind fun x6 => (bif x6 then (chk (InB i4 x2.length) (some (.done (.inr (x2.getD (i4).toNat (0 : Int)))))) else (some (.next (w64 (i4 + (1 : Int)))))))) else (some (.done (.inl ()))))
noncomputable def Q278 (x2 : List (Int)) : AV := (AV.list 1 eI64 (0 : Int) x2 (.own 15))
noncomputable def Q279 (x3 : List (Int)) : AV := (AV.list 1 eI64 (0 : Int) x3 (.own 18))
noncomputable def Q280 (a_tree : List (Int)) : AV := (AV.list 1 eI64 (0 : Int) a_tree .none)
noncomputable def Q277 (x2 : List (Int)) (x3 : List (Int)) : List (Nat × Own) := [(15, .tok 1 3 x2.length), (18, .tok 1 3 x3.length)]
noncomputable def m_lockstepref07_Meet (a_tree : List (Int)) (a_a : Int) (a_b : Int) : Option Int :=
  ((m_lockstepref07_Right a_tree).bind fun x1 => (bif (!x1) then (some (-2 : Int)) else ((m_lockstepref07_Path a_tree a_a).bind fun x2 => ((m_lockstepref07_Path a_tree a_b).bind fun x3 => ((loopO (S := Int) (X := (Unit ⊕ Int)) (m_lockstepref07_Meet_L1 x2 x3) (0 : Int)).bind (fun x8 => (match x8 with | (.inl _) => (some (-2 : Int)) | (.inr r10) => (some r10))))))))
theorem ok_lockstepref07_Meet (a_tree : List (Int)) (a_a : Int) (a_b : Int) (r : Int) (h : m_lockstepref07_Meet a_tree a_a a_b = some r) : Spec Try.prog 15 [(AV.list 1 eI64 (0 : Int) a_tree .none), (.int .i64 a_a), (.int .i64 a_b)] [] (.int .i64 r) [] := by
  refine spec_of_awp (fn := Try.f15) Try.func15 rfl rfl (by kernel_rfl) (fun Γ hn hΓ => ?_)
  have hn : Γ.n = 35 := hn
  unfold m_lockstepref07_Meet at h
  refine rgs0 (⟨[(0, (Q280 a_tree)), (1, (.int .i64 a_a)), (2, (.int .i64 a_b))], [], []⟩ : St) hn mix (no_hand hΓ) (by kernel_rfl) ?_
  refine awp_seq ?_
  obtain ⟨x1, hx1, h⟩ := bind_some h
  refine rgs [⟨[], [], (.bool x1), []⟩] [] (⟨[(0, (Q280 a_tree)), (1, (.int .i64 a_a)), (2, (.int .i64 a_b)), (12, (.bool (!x1)))], [], []⟩ : St) [(Spec Try.prog 30 [(Q280 a_tree)] [] (.bool x1) [])] hn mix (no_hand hΓ) (by kernel_rfl) ⟨(ok_lockstepref07_Right a_tree x1 hx1), trivial⟩ ?_
  refine awp_cond (!x1) (by kernel_rfl) (fun hb => ?_) (fun hb => ?_)
  · replace h := cond_t hb h
    clear hb
    refine rgs0 (⟨[(6, (.int .i64 (-2 : Int)))], [], []⟩ : St) hn mix (no_hand hΓ) (by kernel_rfl) ?_
    refine awp_ret ?_
    refine then_ret ?_
    obtain rfl := Option.some.inj h
    exact ⟨.inl rfl, [], by kernel_rfl⟩
  · replace h := cond_f hb h
    clear hb
    refine awp_skip ?_
    refine then_normal ?_
    obtain ⟨x2, hx2, h⟩ := bind_some h
    refine rgs [⟨[], [(20000, 15)], (AV.list 1 eI64 (0 : Int) x2 (.own 20000)), [(20000, .tok 1 3 x2.length)]⟩] [] (⟨[(0, (Q280 a_tree)), (2, (.int .i64 a_b)), (7, (Q278 x2))], [(15, .tok 1 3 x2.length)], []⟩ : St) [(Spec Try.prog 31 [(Q280 a_tree), (.int .i64 a_a)] [] (AV.list 1 eI64 (0 : Int) x2 (.own 20000)) [(20000, .tok 1 3 x2.length)])] hn mix (no_hand hΓ) (by kernel_rfl) ⟨(ok_lockstepref07_Path a_tree a_a x2 hx2), trivial⟩ ?_
    obtain ⟨x3, hx3, h⟩ := bind_some h
    refine rgs [⟨[], [(20000, 18)], (AV.list 1 eI64 (0 : Int) x3 (.own 20000)), [(20000, .tok 1 3 x3.length)]⟩] [] (⟨[(7, (Q278 x2)), (8, (Q279 x3))], (Q277 x2 x3), []⟩ : St) [(Spec Try.prog 31 [(Q280 a_tree), (.int .i64 a_b)] [] (AV.list 1 eI64 (0 : Int) x3 (.own 20000)) [(20000, .tok 1 3 x3.length)])] hn mix (no_hand hΓ) (by kernel_rfl) ⟨(ok_lockstepref07_Path a_tree a_b x3 hx3), trivial⟩ ?_
    refine awp_seq ?_
    refine rgs0 (⟨[(7, (Q278 x2)), (8, (Q279 x3)), (9, (.int .i64 (0 : Int)))], (Q277 x2 x3), []⟩ : St) hn mix (no_hand hΓ) (by kernel_rfl) ?_
    refine awp_block ?_
    refine awp_le (st' := (fun (i4 : Int) => (⟨[(7, (Q278 x2)), (8, (Q279 x3)), (9, (.int .i64 i4))], (Q277 x2 x3), []⟩ : St)) (0 : Int)) (Le.refl _ _) ?_
    obtain ⟨x8, hx8, h⟩ := bind_some h
    refine awp_loop (fun (i4 : Int) => (⟨[(7, (Q278 x2)), (8, (Q279 x3)), (9, (.int .i64 i4))], (Q277 x2 x3), []⟩ : St)) _ (fun (x_ : (Unit ⊕ Int)) (e : Exit) (st : St) => match x_ with | (.inl _) => e = (.exit 0) ∧ Le Γ st (⟨[], [], []⟩ : St) | (.inr r_) => e = .ret ∧ retK Try.prog Try.f15.results.toList [] (.int .i64 r_) [] e st) ?_ hx8 ?_
    · intro i4 y h
      unfold m_lockstepref07_Meet_L1 at h
      refine awp_seq ?_
      refine rgs0 (⟨[(7, (Q278 x2)), (8, (Q279 x3)), (9, (.int .i64 i4)), (22, (.bool (decide ((i4 : Int) < (x2.length : Int)))))], (Q277 x2 x3), []⟩ : St) hn mix (no_hand hΓ) (by kernel_rfl) ?_
      refine awp_cond (decide ((i4 : Int) < (x2.length : Int))) (by kernel_rfl) (fun hb => ?_) (fun hb => ?_)
      · replace h := cond_t hb h
        clear hb
        refine awp_skip ?_
        refine then_normal ?_
        refine awp_seq ?_
        refine awp_block ?_
        obtain ⟨hc5, h⟩ := chk_some h
        obtain ⟨x6, hx6, h⟩ := bind_some h
        refine rgs [⟨[], [], (.bool x6), []⟩] [] (⟨[(7, (Q278 x2)), (8, (Q279 x3)), (9, (.int .i64 i4)), (30, (.bool x6))], (Q277 x2 x3), []⟩ : St) [(InB i4 x2.length), (Spec Try.prog 23 [(AV.list 1 eI64 (0 : Int) x3 .none), (.int .i64 (x2.getD (i4).toNat (0 : Int)))] [] (.bool x6) [])] hn mix (no_hand hΓ) (by kernel_rfl) ⟨hc5, (ok_lockstepref06_Has x3 (x2.getD (i4).toNat (0 : Int)) x6 hx6), trivial⟩ ?_
        refine awp_cond x6 (by kernel_rfl) (fun hb => ?_) (fun hb => ?_)
        · replace h := cond_t hb h
          clear hb
          obtain ⟨hc7, h⟩ := chk_some h
          refine rgs [] [] (⟨[(6, (.int .i64 (x2.getD (i4).toNat (0 : Int))))], [], []⟩ : St) [(InB i4 x2.length)] hn mix (no_hand hΓ) (by kernel_rfl) ⟨hc7, trivial⟩ ?_
          refine awp_ret ?_
          refine block_ret ?_
          refine then_ret ?_
          obtain rfl := Option.some.inj h
          exact ⟨(by intro hh; cases hh), rfl, ⟨.inl rfl, [], by kernel_rfl⟩⟩
        · replace h := cond_f hb h
          clear hb
          refine awp_skip ?_
          refine block_normal ?_
          refine then_normal ?_
          refine rg0 (⟨[(7, (Q278 x2)), (8, (Q279 x3)), (9, (.int .i64 (w64 (i4 + (1 : Int)))))], (Q277 x2 x3), []⟩ : St) hn mix (no_hand hΓ) (by kernel_rfl) ?_
          obtain rfl := Option.some.inj h
          exact ⟨rfl, Le.refl _ _⟩
      · replace h := cond_f hb h
        clear hb
        refine awp_exit ?_
        refine then_exit ?_
        obtain rfl := Option.some.inj h
        exact ⟨(by intro hh; cases hh), rfl, le_restrict_eq [] [] (by kernel_rfl) (no_hand hΓ)⟩
    · clear hx8
      rcases x8 with _ | r10
      · rintro e st' ⟨rfl, hl9⟩
        refine block_here ?_
        refine then_normal ?_
        refine awp_le hl9 ?_
        refine rgs0 (⟨[(6, (.int .i64 (-2 : Int)))], [], []⟩ : St) hn mix (no_hand hΓ) (by kernel_rfl) ?_
        refine awp_ret ?_
        obtain rfl := Option.some.inj h
        exact ⟨.inl rfl, [], by kernel_rfl⟩
      · rintro e st' ⟨rfl, hk⟩
        refine block_ret ?_
        refine then_ret ?_
        obtain rfl := Option.some.inj h
        exact hk

noncomputable def m_lockstepref07_Kids_L1 (a_tree : List (Int)) (a_a : Int) : (List (Int) × Int) → Option (LR (List (Int) × Int) (List (Int))) :=
  fun ((l3, i4) : (List (Int) × Int)) => (bif (decide ((i4 : Int) < (a_tree.length : Int))) then (Option.bind (α := List (Int)) (chk (InB i4 a_tree.length) (bif (((a_tree.getD (i4).toNat (0 : Int)) : Int) == a_a) then (chk (l3.length + ([i4] : List (Int)).length ≤ room) (some ((l3 ++ ([i4] : List (Int)))))) else (some (l3)))) (fun x9 => ((some (.next (x9, (w64 (i4 + (1 : Int))))))))) else (some (.done l3)))
noncomputable def Q283 (i4 : Int) := ([i4] : List (Int))
noncomputable def Q282 (a_tree : List (Int)) : AV := (AV.list 1 eI64 (0 : Int) a_tree .none)
noncomputable def Q281 : AV := (AV.list 1 eI64 (0 : Int) ([] : List Int) .exact)
noncomputable def Q284 := (⟨[(4, (AV.list 1 eI64 (0 : Int) ([] : List Int) (.own 6004)))], [(6004, .tok 1 3 (([] : List Int).length))], []⟩ : St)
noncomputable def m_lockstepref07_Kids (a_tree : List (Int)) (a_a : Int) : Option (List (Int)) :=
  ((m_lockstepref07_Right a_tree).bind fun x1 => ((bif ((!x1) == false) then m_lockstepref07_Path a_tree a_a else some []).bind fun x2 => (bif (bif (!x1) then true else (((x2.length : Int) : Int) == (0 : Int))) then (some ([] : List Int)) else ((loopO (S := (List (Int) × Int)) (X := List (Int)) (m_lockstepref07_Kids_L1 a_tree a_a) (([] : List Int), (0 : Int))).bind (fun x11 => ((some x11)))))))
theorem ok_lockstepref07_Kids (a_tree : List (Int)) (a_a : Int) (r : List (Int)) (h : m_lockstepref07_Kids a_tree a_a = some r) : Spec Try.prog 19 [(AV.list 1 eI64 (0 : Int) a_tree .none), (.int .i64 a_a)] [] (AV.list 1 eI64 (0 : Int) r (.own 20000)) [(20000, .tok 1 3 r.length)] := by
  refine spec_of_awp (fn := Try.f19) Try.func19 rfl rfl (by kernel_rfl) (fun Γ hn hΓ => ?_)
  have hn : Γ.n = 34 := hn
  unfold m_lockstepref07_Kids at h
  refine rgs [] [(4, Q281)] (⟨[(0, (Q282 a_tree)), (1, (.int .i64 a_a))], [], []⟩ : St) [(AVle (.slice 0 0 (fun _ => []) .exact) Q281)] hn mix (no_hand hΓ) (by kernel_rfl) ⟨av_nil, trivial⟩ ?_
  refine rgs [] [(5, Q281)] (⟨[(0, (Q282 a_tree)), (1, (.int .i64 a_a)), (5, Q281)], [], []⟩ : St) [(AVle (.slice 0 0 (fun _ => []) .exact) Q281)] hn mix (no_hand hΓ) (by kernel_rfl) ⟨av_nil, trivial⟩ ?_
  refine awp_seq ?_
  obtain ⟨x1, hx1, h⟩ := bind_some h
  obtain ⟨x2, hx2, h⟩ := bind_some h
  refine rgs [⟨[], [], (.bool x1), []⟩, ⟨[], [], (AV.list 1 eI64 (0 : Int) x2 .none), []⟩] [] (⟨[(0, (Q282 a_tree)), (1, (.int .i64 a_a)), (5, Q281), (16, (.bool (bif (!x1) then true else (((x2.length : Int) : Int) == (0 : Int)))))], [], []⟩ : St) [(Spec Try.prog 30 [(Q282 a_tree)] [] (.bool x1) []), (((!x1) == false) = true → ((!x1) == false) = true), (((!x1) == false) = true → ((!x1) == false) = true), (((!x1) == false) = true → (Spec Try.prog 31 [(Q282 a_tree), (.int .i64 a_a)] [] (AV.list 1 eI64 (0 : Int) x2 .none) [])), (((!x1) == false) = true → ((!x1) == false) = true), (((!x1) == false) = true → ((!x1) == false) = true), ((!x1) = false → ((!x1) == false) = true)] hn mix (no_hand hΓ) (by kernel_rfl) ⟨(ok_lockstepref07_Right a_tree x1 hx1), (fun hg => hg), (fun hg => hg), (fun hg => (Spec.drop (ok_lockstepref07_Path a_tree a_a x2 (cond_t hg hx2)))), (fun hg => hg), (fun hg => hg), gF, trivial⟩ ?_
  refine awp_cond (bif (!x1) then true else (((x2.length : Int) : Int) == (0 : Int))) (by kernel_rfl) (fun hb => ?_) (fun hb => ?_)
  · replace h := cond_t hb h
    clear hb
    refine rgs [] [(4, Q281)] (⟨[(4, Q281)], [], []⟩ : St) [(AVle (.slice 0 0 (fun _ => []) .exact) Q281)] hn mix (no_hand hΓ) (by kernel_rfl) ⟨av_nil, trivial⟩ ?_
    refine awp_le (st' := Q284) (Le.trans (le_restrict_eq (st' := (⟨[(4, Q281)], [], []⟩ : St)) [4] [] (by kernel_rfl) (no_hand hΓ)) (Le.trans (le_tag (t := 4) (nm := 6004) (sz' := 1) (fun i => eI64 (([] : List Int).getD i (0 : Int))) 3 rfl rfl (.inl ⟨rfl, rfl⟩) (fun h_ => absurd h_ (by decide))) (le_restrict_eq (st' := Q284) [4] [6004] (by kernel_rfl) (no_hand hΓ)))) ?_
    refine awp_ret ?_
    refine then_ret ?_
    obtain rfl := Option.some.inj h
    exact ⟨.inl rfl, [(6004, 20000)], by kernel_rfl⟩
  · replace h := cond_f hb h
    clear hb
    refine awp_skip ?_
    refine then_normal ?_
    refine awp_seq ?_
    refine rgs0 (⟨[(0, (Q282 a_tree)), (1, (.int .i64 a_a)), (5, Q281), (6, (.int .i64 (0 : Int)))], [], []⟩ : St) hn mix (no_hand hΓ) (by kernel_rfl) ?_
    refine awp_block ?_
    refine awp_le (st' := (fun ((l3, i4) : (List (Int) × Int)) => (⟨[(0, (Q282 a_tree)), (1, (.int .i64 a_a)), (5, (AV.list 1 eI64 (0 : Int) l3 (.own 5005))), (6, (.int .i64 i4))], [(5005, .tok 1 3 l3.length)], []⟩ : St)) (([] : List Int), (0 : Int))) (Le.trans (le_restrict_eq (st' := (⟨[(0, (Q282 a_tree)), (1, (.int .i64 a_a)), (5, Q281), (6, (.int .i64 (0 : Int)))], [], []⟩ : St)) [0, 1, 5, 6] [] (by kernel_rfl) (no_hand hΓ)) (Le.trans (le_tag (t := 5) (nm := 5005) (sz' := 1) (fun i => eI64 (([] : List Int).getD i (0 : Int))) 3 rfl rfl (.inl ⟨rfl, rfl⟩) (fun h_ => absurd h_ (by decide))) (le_restrict_eq (st' := (⟨[(0, (Q282 a_tree)), (1, (.int .i64 a_a)), (5, (AV.list 1 eI64 (0 : Int) ([] : List Int) (.own 5005))), (6, (.int .i64 (0 : Int)))], [(5005, .tok 1 3 (([] : List Int).length))], []⟩ : St)) [0, 1, 5, 6] [5005] (by kernel_rfl) (no_hand hΓ)))) ?_
    obtain ⟨x11, hx11, h⟩ := bind_some h
    refine awp_loop (fun ((l3, i4) : (List (Int) × Int)) => (⟨[(0, (Q282 a_tree)), (1, (.int .i64 a_a)), (5, (AV.list 1 eI64 (0 : Int) l3 (.own 5005))), (6, (.int .i64 i4))], [(5005, .tok 1 3 l3.length)], []⟩ : St)) _ (fun (l5 : List (Int)) (e : Exit) (st : St) => e = (.exit 0) ∧ Le Γ st (⟨[(5, (AV.list 1 eI64 (0 : Int) l5 (.own 5005)))], [(5005, .tok 1 3 l5.length)], []⟩ : St)) ?_ hx11 ?_
    · rintro ⟨l3, i4⟩ y h
      unfold m_lockstepref07_Kids_L1 at h
      refine awp_seq ?_
      refine rgs0 (⟨[(0, (Q282 a_tree)), (1, (.int .i64 a_a)), (5, (AV.list 1 eI64 (0 : Int) l3 (.own 5005))), (6, (.int .i64 i4)), (20, (.bool (decide ((i4 : Int) < (a_tree.length : Int)))))], [(5005, .tok 1 3 l3.length)], []⟩ : St) hn mix (no_hand hΓ) (by kernel_rfl) ?_
      refine awp_cond (decide ((i4 : Int) < (a_tree.length : Int))) (by kernel_rfl) (fun hb => ?_) (fun hb => ?_)
      · replace h := cond_t hb h
        clear hb
        refine awp_skip ?_
        refine then_normal ?_
        refine awp_seq ?_
        obtain ⟨x9, hx9, h⟩ := bind_some h
        refine awp_join (fun (l6 : List (Int)) (e : Exit) (st : St) => e = .normal ∧ Le Γ st (⟨[(0, (Q282 a_tree)), (1, (.int .i64 a_a)), (5, (AV.list 1 eI64 (0 : Int) l6 (.own 5005))), (6, (.int .i64 i4))], [(5005, .tok 1 3 l6.length)], []⟩ : St)) hx9 ?_ ?_
        · clear h hx9
          intro y h
          refine awp_block ?_
          obtain ⟨hc7, h⟩ := chk_some h
          refine rgs [] [] (⟨[(0, (Q282 a_tree)), (1, (.int .i64 a_a)), (5, (AV.list 1 eI64 (0 : Int) l3 (.own 5005))), (6, (.int .i64 i4)), (28, (.bool (((a_tree.getD (i4).toNat (0 : Int)) : Int) == a_a)))], [(5005, .tok 1 3 l3.length)], []⟩ : St) [(InB i4 a_tree.length)] hn mix (no_hand hΓ) (by kernel_rfl) ⟨hc7, trivial⟩ ?_
          refine awp_cond (((a_tree.getD (i4).toNat (0 : Int)) : Int) == a_a) (by kernel_rfl) (fun hb => ?_) (fun hb => ?_)
          · replace h := cond_t hb h
            clear hb
            obtain ⟨hc8, h⟩ := chk_some h
            refine rg [] [(31, (AV.list 1 eI64 (0 : Int) (Q283 i4) .exact)), (32, (AV.list 1 eI64 (0 : Int) (l3 ++ (Q283 i4)) (.own 5005)))] (⟨[(0, (Q282 a_tree)), (1, (.int .i64 a_a)), (5, (AV.list 1 eI64 (0 : Int) (l3 ++ (Q283 i4)) (.own 5005))), (6, (.int .i64 i4))], [(5005, .tok 1 3 ((l3 ++ (Q283 i4)).length))], []⟩ : St) [(AVle (.slice 1 1 (fun i => ([[(.int .i64 i4)]] : List (List AV)).getD i []) .exact) (AV.list 1 eI64 (0 : Int) (Q283 i4) .exact)), (l3.length = l3.length), (l3.length + (Q283 i4).length ≤ room), (AVle (.slice 1 (l3.length + (Q283 i4).length) (appF l3.length (fun i => eI64 (l3.getD i (0 : Int))) (fun i => eI64 ((Q283 i4).getD i (0 : Int)))) (.own 5005)) (AV.list 1 eI64 (0 : Int) (l3 ++ (Q283 i4)) (.own 5005))), (l3.length + (Q283 i4).length = (l3 ++ (Q283 i4)).length)] hn mix (no_hand hΓ) (by kernel_rfl) ⟨(av_lit rfl (fun i hi => map_get (e := eI64) (d := (0 : Int)) (Q283 i4) i hi)), rfl, hc8, av_app, (len_app _ _), trivial⟩ ?_
            refine block_normal ?_
            obtain rfl := Option.some.inj h
            exact ⟨rfl, Le.refl _ _⟩
          · replace h := cond_f hb h
            clear hb
            refine awp_skip ?_
            refine block_normal ?_
            obtain rfl := Option.some.inj h
            exact ⟨rfl, le_restrict_eq [0, 1, 5, 6] [5005] (by kernel_rfl) (no_hand hΓ)⟩
        · clear hx9
          rintro e st' ⟨rfl, hl10⟩
          refine then_normal ?_
          refine awp_le hl10 ?_
          refine rg0 (⟨[(0, (Q282 a_tree)), (1, (.int .i64 a_a)), (5, (AV.list 1 eI64 (0 : Int) x9 (.own 5005))), (6, (.int .i64 (w64 (i4 + (1 : Int)))))], [(5005, .tok 1 3 x9.length)], []⟩ : St) hn mix (no_hand hΓ) (by kernel_rfl) ?_
          obtain rfl := Option.some.inj h
          exact ⟨rfl, Le.refl _ _⟩
      · replace h := cond_f hb h
        clear hb
        refine awp_exit ?_
        refine then_exit ?_
        obtain rfl := Option.some.inj h
        exact ⟨(by intro hh; cases hh), rfl, le_restrict_eq [5] [5005] (by kernel_rfl) (no_hand hΓ)⟩
    · clear hx11
      rintro e st' ⟨rfl, hl12⟩
      refine block_here ?_
      refine then_normal ?_
      refine awp_le hl12 ?_
      refine rgs0 (⟨[(4, (AV.list 1 eI64 (0 : Int) x11 (.own 5005)))], [(5005, .tok 1 3 x11.length)], []⟩ : St) hn mix (no_hand hΓ) (by kernel_rfl) ?_
      refine awp_ret ?_
      obtain rfl := Option.some.inj h
      exact ⟨.inl rfl, [(5005, 20000)], by kernel_rfl⟩

noncomputable def Q289 (x1 : List (Bool)) (a_b : Int) := ((x1.getD (a_b).toNat false) == true)
noncomputable def m_lockstepref07_Over (a_g : TGraph) (a_root : Int) (a_a : Int) (a_b : Int) : Option Bool :=
  ((m_lockstepref06_Reach a_g a_root (-1 : Int)).bind fun x1 => (chk (InB a_b x1.length) ((bif ((x1.getD (a_b).toNat false) == true) then m_lockstepref06_Reach a_g a_root a_a else some []).bind fun x3 => (chk (((x1.getD (a_b).toNat false) == true) = true → (InB a_b x3.length)) (some (bif (x1.getD (a_b).toNat false) then (!(x3.getD (a_b).toNat false)) else false))))))
theorem ok_lockstepref07_Over (a_g : TGraph) (a_root : Int) (a_a : Int) (a_b : Int) (r : Bool) (h : m_lockstepref07_Over a_g a_root a_a a_b = some r) : Spec Try.prog 21 [(.agg (eTGraph a_g)), (.int .i64 a_root), (.int .i64 a_a), (.int .i64 a_b)] [] (.bool r) [] := by
  refine spec_of_awp (fn := Try.f21) Try.func21 rfl rfl (by kernel_rfl) (fun Γ hn hΓ => ?_)
  have hn : Γ.n = 25 := hn
  unfold m_lockstepref07_Over at h
  refine rgs0 (⟨[(1, (.int .i64 a_root)), (2, (.int .i64 a_a)), (3, (.int .i64 a_b)), (4, (.ptr 4 0))], [(4, .row 26 [(AV.list 1 eLI64 [] a_g.Succ .none), (AV.list 1 eLI64 [] a_g.Pred .none)])], []⟩ : St) hn mix (no_hand hΓ) (by kernel_rfl) ?_
  obtain ⟨x1, hx1, h⟩ := bind_some h
  obtain ⟨hc2, h⟩ := chk_some h
  obtain ⟨x3, hx3, h⟩ := bind_some h
  obtain ⟨hc4, h⟩ := chk_some h
  refine rgs [⟨[], [(20000, 11)], (AV.list 1 eB false x1 (.own 20000)), [(20000, .tok 1 4 x1.length)]⟩, ⟨[], [], (AV.list 1 eB false x3 .none), []⟩] [] (⟨[(8, (.bool (bif (x1.getD (a_b).toNat false) then (!(x3.getD (a_b).toNat false)) else false)))], [], []⟩ : St) [(Spec Try.prog 22 [(.agg (eTGraph a_g)), (.int .i64 a_root), (.int .i64 (-1 : Int))] [] (AV.list 1 eB false x1 (.own 20000)) [(20000, .tok 1 4 x1.length)]), (InB a_b x1.length), ((Q289 x1 a_b) = true → (Q289 x1 a_b) = true), ((Q289 x1 a_b) = true → (Q289 x1 a_b) = true), ((Q289 x1 a_b) = true → (Q289 x1 a_b) = true), ((Q289 x1 a_b) = true → (Spec Try.prog 22 [(.agg (eTGraph a_g)), (.int .i64 a_root), (.int .i64 a_a)] [] (AV.list 1 eB false x3 .none) [])), ((Q289 x1 a_b) = true → (Q289 x1 a_b) = true), ((Q289 x1 a_b) = true → (Q289 x1 a_b) = true), ((Q289 x1 a_b) = true → (InB a_b x3.length)), ((Q289 x1 a_b) = true → (Q289 x1 a_b) = true), ((Q289 x1 a_b) = true → (Q289 x1 a_b) = true), ((x1.getD (a_b).toNat false) = true → (Q289 x1 a_b) = true)] hn mix (no_hand hΓ) (by kernel_rfl) ⟨(ok_lockstepref06_Reach a_g a_root (-1 : Int) x1 hx1), hc2, (fun hg => hg), (fun hg => hg), (fun hg => hg), (fun hg => (Spec.drop (ok_lockstepref06_Reach a_g a_root a_a x3 (cond_t hg hx3)))), (fun hg => hg), (fun hg => hg), (fun hg => (hc4 hg)), (fun hg => hg), (fun hg => hg), gT, trivial⟩ ?_
  refine awp_ret ?_
  obtain rfl := Option.some.inj h
  exact ⟨.inl rfl, [], by kernel_rfl⟩

noncomputable def m_locksteplaw07_DomOver_L1 (x7 : List (Int)) : (Int × List (Int)) → Option (LR (Int × List (Int)) (List (Int))) :=
  fun ((i9, l10) : (Int × List (Int))) => (bif (decide ((i9 : Int) < (x7.length : Int))) then (chk (InB i9 x7.length) (chk (InB (x7.getD (i9).toNat (0 : Int)) l10.length) (some (.next ((w64 (i9 + (1 : Int))), (l10.set ((x7.getD (i9).toNat (0 : Int))).toNat i9)))))) else (some (.done l10)))
noncomputable def m_locksteplaw07_DomOver_L2 (a_succ : List (List (Int))) (a_p1 : Int) (x3 : (TGraph × Int)) (x6 : List (Int)) (l11 : List (Int)) (i16 : Int) : Int → Option (LR Int (Unit ⊕ Bool)) :=
  fun (i17 : Int) => (bif (decide ((i17 : Int) < (a_succ.length : Int))) then ((m_dom_Over x6 i16 i17).bind fun x18 => ((m_lockstepref07_Over x3.1 (Int.tmod (w64 a_p1) (a_succ.length : Int)) i16 i17).bind fun x19 => (chk ((((x18 != x19) == false) && (x18 == true)) = true → (InB i16 l11.length)) (chk ((((x18 != x19) == false) && (x18 == true)) = true → (InB i17 l11.length)) ((bif (((((x18 != x19) == false) && (x18 == true)) && ((decide (((l11.getD (i17).toNat (0 : Int)) : Int) < (l11.getD (i16).toNat (0 : Int)))) == false)) && (((i16 : Int) != i17) == true)) then m_dom_Over x6 i17 i16 else some false).bind fun x22 => (bif (bif (x18 != x19) then true else (bif x18 then (bif (decide (((l11.getD (i17).toNat (0 : Int)) : Int) < (l11.getD (i16).toNat (0 : Int)))) then true else (bif ((i16 : Int) != i17) then x22 else false)) else false)) then (some (.done (.inr false))) else (some (.next (w64 (i17 + (1 : Int))))))))))) else (some (.done (.inl ()))))
noncomputable def m_locksteplaw07_DomOver_L3 (a_succ : List (List (Int))) (a_p1 : Int) (x3 : (TGraph × Int)) (x6 : List (Int)) (l11 : List (Int)) : Int → Option (LR Int (Unit ⊕ Bool)) :=
  fun (i16 : Int) => (bif (decide ((i16 : Int) < (a_succ.length : Int))) then ((loopO (S := Int) (X := (Unit ⊕ Bool)) (m_locksteplaw07_DomOver_L2 a_succ a_p1 x3 x6 l11 i16) (0 : Int)).bind (fun x23 => (match x23 with | (.inl _) => (some (.next (w64 (i16 + (1 : Int))))) | (.inr r25) => (some (.done (.inr r25)))))) else (some (.done (.inl ()))))
noncomputable def Q307 (a_succ : List (List (Int))) := (a_succ.length : Int)
noncomputable def Q294 (a_succ : List (List (Int))) : AV := (.int .i64 (Q307 a_succ))
noncomputable def Q308 (a_succ : List (List (Int))) : AV := (AV.list 1 eLI64 [] a_succ .none)
noncomputable def Q293 (x6 : List (Int)) : AV := (AV.list 1 eI64 (0 : Int) x6 (.own 45))
noncomputable def Q297 (x7 : List (Int)) : AV := (AV.list 1 eI64 (0 : Int) x7 (.own 48))
noncomputable def Q302 (x18 : Bool) (x19 : Bool) := (((x18 != x19) == false) && (x18 == true))
noncomputable def Q300 (l10 : List (Int)) (x7 : List (Int)) (i9 : Int) := (l10.set ((x7.getD (i9).toNat (0 : Int))).toNat i9)
noncomputable def Q296 (a_succ : List (List (Int))) := (decide (((20 : Int) : Int) < (Q307 a_succ)))
noncomputable def Q292 (a_p1 : Int) (a_succ : List (List (Int))) : AV := (.int .i64 (Int.tmod (w64 a_p1) (Q307 a_succ)))
noncomputable def Q298 (a_succ : List (List (Int))) := (List.replicate ((Q307 a_succ)).toNat (0 : Int))
noncomputable def Q290 (x18 : Bool) (x19 : Bool) (x14 : List (Int)) (i17 : Int) (i16 : Int) := ((Q302 x18 x19) && ((decide (((x14.getD (i17).toNat (0 : Int)) : Int) < (x14.getD (i16).toNat (0 : Int)))) == false))
noncomputable def Q305 (x18 : Bool) (x19 : Bool) (x14 : List (Int)) (i17 : Int) (i16 : Int) := ((Q290 x18 x19 x14 i17 i16) && (((i16 : Int) != i17) == true))
noncomputable def Q303 (x3 : (TGraph × Int)) : List AV := [(AV.list 1 eLI64 [] x3.1.Succ .none), (AV.list 1 eLI64 [] x3.1.Pred .none)]
noncomputable def Q299 (x3 : (TGraph × Int)) : List (Nat × Own) := [(5, .row 26 (Q303 x3))]
noncomputable def Q304 (a_succ : List (List (Int))) (a_p1 : Int) (x6 : List (Int)) (x7 : List (Int)) (l10 : List (Int)) (i9 : Int) : List (Nat × AV) := [(5, (.ptr 5 0)), (7, (Q294 a_succ)), (8, (Q292 a_p1 a_succ)), (9, (Q293 x6)), (10, (Q297 x7)), (11, (.vsl 50 l10.length)), (12, (.int .i64 i9))]
noncomputable def Q291 (x3 : (TGraph × Int)) (x6 : List (Int)) (x14 : List (Int)) : List (Nat × Own) := [(5, .row 26 (Q303 x3)), (45, .tok 1 3 x6.length), (50, .arr 1 3 x14.length (fun i => eI64 (x14.getD i (0 : Int))))]
noncomputable def Q306 (a_succ : List (List (Int))) (a_p1 : Int) (x6 : List (Int)) (x14 : List (Int)) (i16 : Int) (x3 : (TGraph × Int)) := (⟨[(5, (.ptr 5 0)), (7, (Q294 a_succ)), (8, (Q292 a_p1 a_succ)), (9, (Q293 x6)), (11, (.vsl 50 x14.length)), (13, (.int .i64 i16))], (Q291 x3 x6 x14), []⟩ : St)
noncomputable def Q295 (x3 : (TGraph × Int)) (x6 : List (Int)) (x7 : List (Int)) (l10 : List (Int)) : List (Nat × Own) := [(5, .row 26 (Q303 x3)), (45, .tok 1 3 x6.length), (48, .tok 1 3 x7.length), (50, .arr 1 3 l10.length (fun i => eI64 (l10.getD i (0 : Int))))]
noncomputable def Q301 (x18 : Bool) (x19 : Bool) (x14 : List (Int)) (i17 : Int) (i16 : Int) (x22 : Bool) := (bif (x18 != x19) then true else (bif x18 then (bif (decide (((x14.getD (i17).toNat (0 : Int)) : Int) < (x14.getD (i16).toNat (0 : Int)))) then true else (bif ((i16 : Int) != i17) then x22 else false)) else false))
noncomputable def m_locksteplaw07_DomOver (a_succ : List (List (Int))) (a_p1 : Int) : Option Bool :=
  ((m_locksteplaw07_awake).bind fun x1 => (bif (!x1) then (some false) else ((bif ((decide (((20 : Int) : Int) < (a_succ.length : Int))) == false) then m_lockstepref06_Small a_succ else some false).bind fun x2 => (bif (bif (decide (((20 : Int) : Int) < (a_succ.length : Int))) then true else (!x2)) then (some true) else ((m_graph_Make a_succ).bind fun x3 => (bif ((x3.2 : Int) != (0 : Int)) then ((m_dom_Tree x3.1 (0 : Int)).bind fun x4 => (some (((x4.length : Int) : Int) == (0 : Int)))) else (chk ((a_succ.length : Int) ≠ 0) ((m_dom_Tree x3.1 (Int.tmod (w64 a_p1) (a_succ.length : Int))).bind fun x6 => ((m_graph_Order x3.1 (Int.tmod (w64 a_p1) (a_succ.length : Int))).bind fun x7 => (chk (0 ≤ (a_succ.length : Int) ∧ (a_succ.length : Int) ≤ (a_succ.length : Int) ∧ (a_succ.length : Int) ≤ (room : Int)) ((loopO (S := (Int × List (Int))) (X := List (Int)) (m_locksteplaw07_DomOver_L1 x7) ((0 : Int), (List.replicate ((a_succ.length : Int)).toNat (0 : Int)))).bind (fun x14 => (((loopO (S := Int) (X := (Unit ⊕ Bool)) (m_locksteplaw07_DomOver_L3 a_succ a_p1 x3 x6 x14) (0 : Int)).bind (fun x26 => (match x26 with | (.inl _) => (some true) | (.inr r28) => (some r28)))))))))))))))))
theorem ok_locksteplaw07_DomOver (a_succ : List (List (Int))) (a_p1 : Int) (r : Bool) (h : m_locksteplaw07_DomOver a_succ a_p1 = some r) : Spec Try.prog 5 [(AV.list 1 eLI64 [] a_succ .none), (.int .u8 a_p1)] [] (.bool r) [] := by
  refine spec_of_awp (fn := Try.f5) Try.func5 rfl rfl (by kernel_rfl) (fun Γ hn hΓ => ?_)
  have hn : Γ.n = 110 := hn
  unfold m_locksteplaw07_DomOver at h
  refine rgs0 (⟨[(0, (Q308 a_succ)), (1, (.int .u8 a_p1))], [], []⟩ : St) hn mix (no_hand hΓ) (by kernel_rfl) ?_
  refine awp_seq ?_
  obtain ⟨x1, hx1, h⟩ := bind_some h
  refine rgs [⟨[], [], (.bool x1), []⟩] [] (⟨[(0, (Q308 a_succ)), (1, (.int .u8 a_p1)), (17, (.bool (!x1)))], [], []⟩ : St) [(Spec Try.prog 9 [] [] (.bool x1) [])] hn mix (no_hand hΓ) (by kernel_rfl) ⟨(ok_locksteplaw07_awake  x1 hx1), trivial⟩ ?_
  refine awp_cond (!x1) (by kernel_rfl) (fun hb => ?_) (fun hb => ?_)
  · replace h := cond_t hb h
    clear hb
    refine rgs0 (⟨[(4, (.bool false))], [], []⟩ : St) hn mix (no_hand hΓ) (by kernel_rfl) ?_
    refine awp_ret ?_
    refine then_ret ?_
    obtain rfl := Option.some.inj h
    exact ⟨.inl rfl, [], by kernel_rfl⟩
  · replace h := cond_f hb h
    clear hb
    refine awp_skip ?_
    refine then_normal ?_
    refine awp_seq ?_
    obtain ⟨x2, hx2, h⟩ := bind_some h
    refine rgs [⟨[], [], (.bool x2), []⟩] [] (⟨[(0, (Q308 a_succ)), (1, (.int .u8 a_p1)), (25, (.bool (bif (Q296 a_succ) then true else (!x2))))], [], []⟩ : St) [(((Q296 a_succ) == false) = true → ((Q296 a_succ) == false) = true), (((Q296 a_succ) == false) = true → (Spec Try.prog 10 [(Q308 a_succ)] [] (.bool x2) [])), (((Q296 a_succ) == false) = true → ((Q296 a_succ) == false) = true), ((Q296 a_succ) = false → ((Q296 a_succ) == false) = true)] hn mix (no_hand hΓ) (by kernel_rfl) ⟨(fun hg => hg), (fun hg => (ok_lockstepref06_Small a_succ x2 (cond_t hg hx2))), (fun hg => hg), gF, trivial⟩ ?_
    refine awp_cond (bif (Q296 a_succ) then true else (!x2)) (by kernel_rfl) (fun hb => ?_) (fun hb => ?_)
    · replace h := cond_t hb h
      clear hb
      refine rgs0 (⟨[(4, (.bool true))], [], []⟩ : St) hn mix (no_hand hΓ) (by kernel_rfl) ?_
      refine awp_ret ?_
      refine then_ret ?_
      obtain rfl := Option.some.inj h
      exact ⟨.inl rfl, [], by kernel_rfl⟩
    · replace h := cond_f hb h
      clear hb
      refine awp_skip ?_
      refine then_normal ?_
      obtain ⟨x3, hx3, h⟩ := bind_some h
      refine rgs [⟨[], [], (.tuple [(.agg (eTGraph x3.1)), (.int .i64 x3.2)]), []⟩] [] (⟨[(0, (Q308 a_succ)), (1, (.int .u8 a_p1)), (5, (.ptr 5 0)), (6, (.int .i64 x3.2))], (Q299 x3), []⟩ : St) [(Spec Try.prog 11 [(Q308 a_succ)] [] (.tuple [(.agg (eTGraph x3.1)), (.int .i64 x3.2)]) [])] hn mix (no_hand hΓ) (by kernel_rfl) ⟨(ok_graph_Make a_succ x3 hx3), trivial⟩ ?_
      refine awp_seq ?_
      refine rgs0 (⟨[(0, (Q308 a_succ)), (1, (.int .u8 a_p1)), (5, (.ptr 5 0)), (32, (.bool ((x3.2 : Int) != (0 : Int))))], (Q299 x3), []⟩ : St) hn mix (no_hand hΓ) (by kernel_rfl) ?_
      refine awp_cond ((x3.2 : Int) != (0 : Int)) (by kernel_rfl) (fun hb => ?_) (fun hb => ?_)
      · replace h := cond_t hb h
        clear hb
        obtain ⟨x4, hx4, h⟩ := bind_some h
        refine rgs [⟨[], [(20000, 34)], (AV.list 1 eI64 (0 : Int) x4 (.own 20000)), [(20000, .tok 1 3 x4.length)]⟩] [] (⟨[(4, (.bool (((x4.length : Int) : Int) == (0 : Int))))], [], []⟩ : St) [(Spec Try.prog 13 [(.agg (eTGraph x3.1)), (.int .i64 (0 : Int))] [] (AV.list 1 eI64 (0 : Int) x4 (.own 20000)) [(20000, .tok 1 3 x4.length)])] hn mix (no_hand hΓ) (by kernel_rfl) ⟨(ok_dom_Tree x3.1 (0 : Int) x4 hx4), trivial⟩ ?_
        refine awp_ret ?_
        refine then_ret ?_
        obtain rfl := Option.some.inj h
        exact ⟨.inl rfl, [], by kernel_rfl⟩
      · replace h := cond_f hb h
        clear hb
        refine awp_skip ?_
        refine then_normal ?_
        refine rgs0 (⟨[(1, (.int .u8 a_p1)), (5, (.ptr 5 0)), (7, (Q294 a_succ))], (Q299 x3), []⟩ : St) hn mix (no_hand hΓ) (by kernel_rfl) ?_
        obtain ⟨hc5, h⟩ := chk_some h
        refine rgs [] [] (⟨[(5, (.ptr 5 0)), (7, (Q294 a_succ)), (8, (Q292 a_p1 a_succ))], (Q299 x3), []⟩ : St) [((Q307 a_succ) ≠ 0)] hn mix (no_hand hΓ) (by kernel_rfl) ⟨hc5, trivial⟩ ?_
        obtain ⟨x6, hx6, h⟩ := bind_some h
        refine rgs [⟨[], [(20000, 45)], (AV.list 1 eI64 (0 : Int) x6 (.own 20000)), [(20000, .tok 1 3 x6.length)]⟩] [] (⟨[(5, (.ptr 5 0)), (7, (Q294 a_succ)), (8, (Q292 a_p1 a_succ)), (9, (Q293 x6))], [(5, .row 26 (Q303 x3)), (45, .tok 1 3 x6.length)], []⟩ : St) [(Spec Try.prog 13 [(.agg (eTGraph x3.1)), (Q292 a_p1 a_succ)] [] (AV.list 1 eI64 (0 : Int) x6 (.own 20000)) [(20000, .tok 1 3 x6.length)])] hn mix (no_hand hΓ) (by kernel_rfl) ⟨(ok_dom_Tree x3.1 (Int.tmod (w64 a_p1) (Q307 a_succ)) x6 hx6), trivial⟩ ?_
        obtain ⟨x7, hx7, h⟩ := bind_some h
        refine rgs [⟨[], [(20000, 48)], (AV.list 1 eI64 (0 : Int) x7 (.own 20000)), [(20000, .tok 1 3 x7.length)]⟩] [] (⟨[(5, (.ptr 5 0)), (7, (Q294 a_succ)), (8, (Q292 a_p1 a_succ)), (9, (Q293 x6)), (10, (Q297 x7))], [(5, .row 26 (Q303 x3)), (45, .tok 1 3 x6.length), (48, .tok 1 3 x7.length)], []⟩ : St) [(Spec Try.prog 20 [(.agg (eTGraph x3.1)), (Q292 a_p1 a_succ)] [] (AV.list 1 eI64 (0 : Int) x7 (.own 20000)) [(20000, .tok 1 3 x7.length)])] hn mix (no_hand hΓ) (by kernel_rfl) ⟨(ok_graph_Order x3.1 (Int.tmod (w64 a_p1) (Q307 a_succ)) x7 hx7), trivial⟩ ?_
        obtain ⟨hc8, h⟩ := chk_some h
        refine rgs [] [] (⟨[(5, (.ptr 5 0)), (7, (Q294 a_succ)), (8, (Q292 a_p1 a_succ)), (9, (Q293 x6)), (10, (Q297 x7)), (11, (.vsl 50 ((Q307 a_succ)).toNat))], [(5, .row 26 (Q303 x3)), (45, .tok 1 3 x6.length), (48, .tok 1 3 x7.length), (50, .arr 1 3 (((Q307 a_succ)).toNat) (fun i_ => AV.eraseAll (fun n_ => memB n_ [5, 45, 48, 50]) ((fun _ => [(.int .i64 (0 : Int))]) i_)))], []⟩ : St) [(0 ≤ (Q307 a_succ) ∧ (Q307 a_succ) ≤ (Q307 a_succ) ∧ (Q307 a_succ) ≤ (room : Int))] hn mix (no_hand hΓ) (by kernel_rfl) ⟨hc8, trivial⟩ ?_
        refine awp_le (Le.trans (le_of (st' := (⟨[(5, (.ptr 5 0)), (7, (Q294 a_succ)), (8, (Q292 a_p1 a_succ)), (9, (Q293 x6)), (10, (Q297 x7)), (11, (.vsl 50 ((Q307 a_succ)).toNat))], [(5, .row 26 (Q303 x3)), (45, .tok 1 3 x6.length), (48, .tok 1 3 x7.length), (50, .arr 1 3 (((Q307 a_succ)).toNat) (fun i => eI64 ((Q298 a_succ).getD i (0 : Int))))], []⟩ : St)) (TmpsLe.refl _) (.same (.same (.same (.arr (fun k hk => make_le (e := eI64) (d := (0 : Int)) (.cons (AVle.refl _) .nil) _ k (repl_lt hk)) .nil))))) (le_eq (congrArg (fun k_ : Nat => (⟨[(5, (.ptr 5 0)), (7, (Q294 a_succ)), (8, (Q292 a_p1 a_succ)), (9, (Q293 x6)), (10, (Q297 x7)), (11, (.vsl 50 k_))], [(5, .row 26 (Q303 x3)), (45, .tok 1 3 x6.length), (48, .tok 1 3 x7.length), (50, .arr 1 3 k_ (fun i => eI64 ((Q298 a_succ).getD i (0 : Int))))], []⟩ : St)) (show ((Q307 a_succ)).toNat = (Q298 a_succ).length from (List.length_replicate ..).symm)))) ?_
        refine awp_seq ?_
        refine rgs0 (⟨[(5, (.ptr 5 0)), (7, (Q294 a_succ)), (8, (Q292 a_p1 a_succ)), (9, (Q293 x6)), (10, (Q297 x7)), (11, (.vsl 50 (Q298 a_succ).length)), (12, (.int .i64 (0 : Int)))], [(5, .row 26 (Q303 x3)), (45, .tok 1 3 x6.length), (48, .tok 1 3 x7.length), (50, .arr 1 3 ((Q298 a_succ).length) (fun i => eI64 ((Q298 a_succ).getD i (0 : Int))))], []⟩ : St) hn mix (no_hand hΓ) (by kernel_rfl) ?_
        refine awp_block ?_
        refine awp_le (st' := (fun ((i9, l10) : (Int × List (Int))) => (⟨(Q304 a_succ a_p1 x6 x7 l10 i9), (Q295 x3 x6 x7 l10), []⟩ : St)) ((0 : Int), (Q298 a_succ))) (Le.refl _ _) ?_
        obtain ⟨x14, hx14, h⟩ := bind_some h
        refine awp_loop (fun ((i9, l10) : (Int × List (Int))) => (⟨(Q304 a_succ a_p1 x6 x7 l10 i9), (Q295 x3 x6 x7 l10), []⟩ : St)) _ (fun (l11 : List (Int)) (e : Exit) (st : St) => e = (.exit 0) ∧ Le Γ st (⟨[(5, (.ptr 5 0)), (7, (Q294 a_succ)), (8, (Q292 a_p1 a_succ)), (9, (Q293 x6)), (11, (.vsl 50 l11.length))], [(5, .row 26 (Q303 x3)), (45, .tok 1 3 x6.length), (50, .arr 1 3 l11.length (fun i => eI64 (l11.getD i (0 : Int))))], []⟩ : St)) ?_ hx14 ?_
        · rintro ⟨i9, l10⟩ y h
          unfold m_locksteplaw07_DomOver_L1 at h
          refine awp_seq ?_
          refine rgs0 (⟨[(5, (.ptr 5 0)), (7, (Q294 a_succ)), (8, (Q292 a_p1 a_succ)), (9, (Q293 x6)), (10, (Q297 x7)), (11, (.vsl 50 l10.length)), (12, (.int .i64 i9)), (54, (.bool (decide ((i9 : Int) < (x7.length : Int)))))], (Q295 x3 x6 x7 l10), []⟩ : St) hn mix (no_hand hΓ) (by kernel_rfl) ?_
          refine awp_cond (decide ((i9 : Int) < (x7.length : Int))) (by kernel_rfl) (fun hb => ?_) (fun hb => ?_)
          · replace h := cond_t hb h
            clear hb
            refine awp_skip ?_
            refine then_normal ?_
            refine awp_seq ?_
            refine awp_block ?_
            obtain ⟨hc12, h⟩ := chk_some h
            obtain ⟨hc13, h⟩ := chk_some h
            refine rg [] [] (⟨(Q304 a_succ a_p1 x6 x7 l10 i9), [(5, .row 26 (Q303 x3)), (45, .tok 1 3 x6.length), (48, .tok 1 3 x7.length), (50, .arr 1 3 l10.length (fun i_ => AV.eraseAll (fun n_ => memB n_ [5, 45, 48, 50]) ((putF (fun i => eI64 (l10.getD i (0 : Int))) ((x7.getD (i9).toNat (0 : Int))).toNat 0 [(.int .i64 i9)]) i_)))], []⟩ : St) [(InB i9 x7.length), (InB (x7.getD (i9).toNat (0 : Int)) l10.length), (l10.length = l10.length)] hn mix (no_hand hΓ) (by kernel_rfl) ⟨hc12, hc13, rfl, trivial⟩ ?_
            refine block_normal ?_
            refine then_normal ?_
            refine awp_le (Le.trans (le_of (st' := (⟨(Q304 a_succ a_p1 x6 x7 l10 i9), [(5, .row 26 (Q303 x3)), (45, .tok 1 3 x6.length), (48, .tok 1 3 x7.length), (50, .arr 1 3 l10.length (fun i => eI64 ((Q300 l10 x7 i9).getD i (0 : Int))))], []⟩ : St)) (TmpsLe.refl _) (.same (.same (.same (.arr (leL_of_eq (List.length_set ..).symm (fun k_ hk_ => (congrArg (AV.eraseAll (fun n_ => memB n_ [5, 45, 48, 50])) ((putF_set (fun _ _ => rfl) (inB_lt0 hc13) rfl) k_ hk_)).trans rfl)) .nil))))) (le_eq (congrArg (fun k_ : Nat => (⟨[(5, (.ptr 5 0)), (7, (Q294 a_succ)), (8, (Q292 a_p1 a_succ)), (9, (Q293 x6)), (10, (Q297 x7)), (11, (.vsl 50 k_)), (12, (.int .i64 i9))], [(5, .row 26 (Q303 x3)), (45, .tok 1 3 x6.length), (48, .tok 1 3 x7.length), (50, .arr 1 3 k_ (fun i => eI64 ((Q300 l10 x7 i9).getD i (0 : Int))))], []⟩ : St)) (show l10.length = (Q300 l10 x7 i9).length from (List.length_set ..).symm)))) ?_
            refine rg0 (⟨[(5, (.ptr 5 0)), (7, (Q294 a_succ)), (8, (Q292 a_p1 a_succ)), (9, (Q293 x6)), (10, (Q297 x7)), (11, (.vsl 50 (Q300 l10 x7 i9).length)), (12, (.int .i64 (w64 (i9 + (1 : Int)))))], [(5, .row 26 (Q303 x3)), (45, .tok 1 3 x6.length), (48, .tok 1 3 x7.length), (50, .arr 1 3 ((Q300 l10 x7 i9).length) (fun i => eI64 ((Q300 l10 x7 i9).getD i (0 : Int))))], []⟩ : St) hn mix (no_hand hΓ) (by kernel_rfl) ?_
            obtain rfl := Option.some.inj h
            exact ⟨rfl, Le.refl _ _⟩
          · replace h := cond_f hb h
            clear hb
            refine awp_exit ?_
            refine then_exit ?_
            obtain rfl := Option.some.inj h
            exact ⟨(by intro hh; cases hh), rfl, le_restrict_eq [5, 7, 8, 9, 11] [5, 45, 50] (by kernel_rfl) (no_hand hΓ)⟩
        · clear hx14
          rintro e st' ⟨rfl, hl15⟩
          refine block_here ?_
          refine then_normal ?_
          refine awp_le hl15 ?_
          refine awp_seq ?_
          refine rgs0 (⟨[(5, (.ptr 5 0)), (7, (Q294 a_succ)), (8, (Q292 a_p1 a_succ)), (9, (Q293 x6)), (11, (.vsl 50 x14.length)), (13, (.int .i64 (0 : Int)))], (Q291 x3 x6 x14), []⟩ : St) hn mix (no_hand hΓ) (by kernel_rfl) ?_
          refine awp_block ?_
          refine awp_le (st' := (fun (i16 : Int) => (Q306 a_succ a_p1 x6 x14 i16 x3)) (0 : Int)) (Le.refl _ _) ?_
          obtain ⟨x26, hx26, h⟩ := bind_some h
          refine awp_loop (fun (i16 : Int) => (Q306 a_succ a_p1 x6 x14 i16 x3)) _ (fun (x_ : (Unit ⊕ Bool)) (e : Exit) (st : St) => match x_ with | (.inl _) => e = (.exit 2) ∧ Le Γ st (⟨[], [], []⟩ : St) | (.inr r_) => e = .ret ∧ retK Try.prog Try.f5.results.toList [] (.bool r_) [] e st) ?_ hx26 ?_
          · intro i16 y h
            unfold m_locksteplaw07_DomOver_L3 at h
            refine awp_seq ?_
            refine rgs0 (⟨[(5, (.ptr 5 0)), (7, (Q294 a_succ)), (8, (Q292 a_p1 a_succ)), (9, (Q293 x6)), (11, (.vsl 50 x14.length)), (13, (.int .i64 i16)), (66, (.bool (decide ((i16 : Int) < (Q307 a_succ)))))], (Q291 x3 x6 x14), []⟩ : St) hn mix (no_hand hΓ) (by kernel_rfl) ?_
            refine awp_cond (decide ((i16 : Int) < (Q307 a_succ))) (by kernel_rfl) (fun hb => ?_) (fun hb => ?_)
            · replace h := cond_t hb h
              clear hb
              refine awp_skip ?_
              refine then_normal ?_
              refine awp_seq ?_
              refine awp_block ?_
              refine rgs0 (⟨[(5, (.ptr 5 0)), (7, (Q294 a_succ)), (8, (Q292 a_p1 a_succ)), (9, (Q293 x6)), (11, (.vsl 50 x14.length)), (13, (.int .i64 i16)), (14, (.int .i64 (0 : Int)))], (Q291 x3 x6 x14), []⟩ : St) hn mix (no_hand hΓ) (by kernel_rfl) ?_
              refine awp_block ?_
              refine awp_le (st' := (fun (i17 : Int) => (⟨[(5, (.ptr 5 0)), (7, (Q294 a_succ)), (8, (Q292 a_p1 a_succ)), (9, (Q293 x6)), (11, (.vsl 50 x14.length)), (13, (.int .i64 i16)), (14, (.int .i64 i17))], (Q291 x3 x6 x14), []⟩ : St)) (0 : Int)) (Le.refl _ _) ?_
              obtain ⟨x23, hx23, h⟩ := bind_some h
              refine awp_loop (fun (i17 : Int) => (⟨[(5, (.ptr 5 0)), (7, (Q294 a_succ)), (8, (Q292 a_p1 a_succ)), (9, (Q293 x6)), (11, (.vsl 50 x14.length)), (13, (.int .i64 i16)), (14, (.int .i64 i17))], (Q291 x3 x6 x14), []⟩ : St)) _ (fun (x_ : (Unit ⊕ Bool)) (e : Exit) (st : St) => match x_ with | (.inl _) => e = (.exit 4) ∧ Le Γ st (Q306 a_succ a_p1 x6 x14 i16 x3) | (.inr r_) => e = .ret ∧ retK Try.prog Try.f5.results.toList [] (.bool r_) [] e st) ?_ hx23 ?_
              · intro i17 y h
                unfold m_locksteplaw07_DomOver_L2 at h
                refine awp_seq ?_
                refine rgs0 (⟨[(5, (.ptr 5 0)), (7, (Q294 a_succ)), (8, (Q292 a_p1 a_succ)), (9, (Q293 x6)), (11, (.vsl 50 x14.length)), (13, (.int .i64 i16)), (14, (.int .i64 i17)), (71, (.bool (decide ((i17 : Int) < (Q307 a_succ)))))], (Q291 x3 x6 x14), []⟩ : St) hn mix (no_hand hΓ) (by kernel_rfl) ?_
                refine awp_cond (decide ((i17 : Int) < (Q307 a_succ))) (by kernel_rfl) (fun hb => ?_) (fun hb => ?_)
                · replace h := cond_t hb h
                  clear hb
                  refine awp_skip ?_
                  refine then_normal ?_
                  refine awp_seq ?_
                  refine awp_block ?_
                  obtain ⟨x18, hx18, h⟩ := bind_some h
                  refine rgs [⟨[], [], (.bool x18), []⟩] [] (⟨[(5, (.ptr 5 0)), (7, (Q294 a_succ)), (8, (Q292 a_p1 a_succ)), (9, (Q293 x6)), (11, (.vsl 50 x14.length)), (13, (.int .i64 i16)), (14, (.int .i64 i17)), (15, (.bool x18))], (Q291 x3 x6 x14), []⟩ : St) [(Spec Try.prog 17 [(AV.list 1 eI64 (0 : Int) x6 .none), (.int .i64 i16), (.int .i64 i17)] [] (.bool x18) [])] hn mix (no_hand hΓ) (by kernel_rfl) ⟨(ok_dom_Over x6 i16 i17 x18 hx18), trivial⟩ ?_
                  obtain ⟨x19, hx19, h⟩ := bind_some h
                  obtain ⟨hc20, h⟩ := chk_some h
                  obtain ⟨hc21, h⟩ := chk_some h
                  obtain ⟨x22, hx22, h⟩ := bind_some h
                  refine rgs [⟨[], [], (.bool x19), []⟩, ⟨[], [], (.bool x22), []⟩] [] (⟨[(5, (.ptr 5 0)), (7, (Q294 a_succ)), (8, (Q292 a_p1 a_succ)), (9, (Q293 x6)), (11, (.vsl 50 x14.length)), (13, (.int .i64 i16)), (14, (.int .i64 i17)), (109, (.bool (Q301 x18 x19 x14 i17 i16 x22)))], (Q291 x3 x6 x14), []⟩ : St) [(Spec Try.prog 21 [(.agg (eTGraph x3.1)), (Q292 a_p1 a_succ), (.int .i64 i16), (.int .i64 i17)] [] (.bool x19) []), (((x18 != x19) == false) = true → ((x18 != x19) == false) = true), ((Q302 x18 x19) = true → (Q302 x18 x19) = true), ((Q302 x18 x19) = true → (Q302 x18 x19) = true), ((Q302 x18 x19) = true → (InB i16 x14.length)), ((Q302 x18 x19) = true → (Q302 x18 x19) = true), ((Q302 x18 x19) = true → (x14.length = x14.length)), ((Q302 x18 x19) = true → (Q302 x18 x19) = true), ((Q302 x18 x19) = true → (Q302 x18 x19) = true), ((Q302 x18 x19) = true → (InB i17 x14.length)), ((Q302 x18 x19) = true → (Q302 x18 x19) = true), ((Q302 x18 x19) = true → (x14.length = x14.length)), ((Q302 x18 x19) = true → (Q302 x18 x19) = true), ((Q302 x18 x19) = true → (Q302 x18 x19) = true), ((Q302 x18 x19) = true → (Q302 x18 x19) = true), ((Q290 x18 x19 x14 i17 i16) = true → (Q290 x18 x19 x14 i17 i16) = true), ((Q290 x18 x19 x14 i17 i16) = true → (Q290 x18 x19 x14 i17 i16) = true), ((Q290 x18 x19 x14 i17 i16) = true → (Q290 x18 x19 x14 i17 i16) = true), ((Q305 x18 x19 x14 i17 i16) = true → (Q305 x18 x19 x14 i17 i16) = true), ((Q305 x18 x19 x14 i17 i16) = true → (Q305 x18 x19 x14 i17 i16) = true), ((Q305 x18 x19 x14 i17 i16) = true → (Q305 x18 x19 x14 i17 i16) = true), ((Q305 x18 x19 x14 i17 i16) = true → (Spec Try.prog 17 [(AV.list 1 eI64 (0 : Int) x6 .none), (.int .i64 i17), (.int .i64 i16)] [] (.bool x22) [])), ((Q290 x18 x19 x14 i17 i16) = true → (Q290 x18 x19 x14 i17 i16) = true), ((Q290 x18 x19 x14 i17 i16) = true → (((i16 : Int) != i17) = true → (Q305 x18 x19 x14 i17 i16) = true)), ((Q302 x18 x19) = true → (Q302 x18 x19) = true), ((Q302 x18 x19) = true → ((decide (((x14.getD (i17).toNat (0 : Int)) : Int) < (x14.getD (i16).toNat (0 : Int)))) = false → (Q290 x18 x19 x14 i17 i16) = true)), (((x18 != x19) == false) = true → ((x18 != x19) == false) = true), (((x18 != x19) == false) = true → (x18 = true → (Q302 x18 x19) = true)), ((x18 != x19) = false → ((x18 != x19) == false) = true)] hn mix (no_hand hΓ) (by kernel_rfl) ⟨(ok_lockstepref07_Over x3.1 (Int.tmod (w64 a_p1) (Q307 a_succ)) i16 i17 x19 hx19), (fun hg => hg), (fun hg => hg), (fun hg => hg), (fun hg => (hc20 hg)), (fun hg => hg), (fun hg => rfl), (fun hg => hg), (fun hg => hg), (fun hg => (hc21 hg)), (fun hg => hg), (fun hg => rfl), (fun hg => hg), (fun hg => hg), (fun hg => hg), (fun hg => hg), (fun hg => hg), (fun hg => hg), (fun hg => hg), (fun hg => hg), (fun hg => hg), (fun hg => (ok_dom_Over x6 i17 i16 x22 (cond_t hg hx22))), (fun hg => hg), (fun hg => (aT hg)), (fun hg => hg), (fun hg => (aF hg)), (fun hg => hg), (fun hg => (aT hg)), gF, trivial⟩ ?_
                  refine awp_cond (Q301 x18 x19 x14 i17 i16 x22) (by kernel_rfl) (fun hb => ?_) (fun hb => ?_)
                  · replace h := cond_t hb h
                    clear hb
                    refine rgs0 (⟨[(4, (.bool false))], [], []⟩ : St) hn mix (no_hand hΓ) (by kernel_rfl) ?_
                    refine awp_ret ?_
                    refine block_ret ?_
                    refine then_ret ?_
                    obtain rfl := Option.some.inj h
                    exact ⟨(by intro hh; cases hh), rfl, ⟨.inl rfl, [], by kernel_rfl⟩⟩
                  · replace h := cond_f hb h
                    clear hb
                    refine awp_skip ?_
                    refine block_normal ?_
                    refine then_normal ?_
                    refine rg0 (⟨[(5, (.ptr 5 0)), (7, (Q294 a_succ)), (8, (Q292 a_p1 a_succ)), (9, (Q293 x6)), (11, (.vsl 50 x14.length)), (13, (.int .i64 i16)), (14, (.int .i64 (w64 (i17 + (1 : Int)))))], (Q291 x3 x6 x14), []⟩ : St) hn mix (no_hand hΓ) (by kernel_rfl) ?_
                    obtain rfl := Option.some.inj h
                    exact ⟨rfl, Le.refl _ _⟩
                · replace h := cond_f hb h
                  clear hb
                  refine awp_exit ?_
                  refine then_exit ?_
                  obtain rfl := Option.some.inj h
                  exact ⟨(by intro hh; cases hh), rfl, le_restrict_eq [5, 7, 8, 9, 11, 13] [5, 45, 50] (by kernel_rfl) (no_hand hΓ)⟩
              · clear hx23
                rcases x23 with _ | r25
                · rintro e st' ⟨rfl, hl24⟩
                  refine block_here ?_
                  refine block_normal ?_
                  refine then_normal ?_
                  refine awp_le hl24 ?_
                  refine rg0 (⟨[(5, (.ptr 5 0)), (7, (Q294 a_succ)), (8, (Q292 a_p1 a_succ)), (9, (Q293 x6)), (11, (.vsl 50 x14.length)), (13, (.int .i64 (w64 (i16 + (1 : Int)))))], (Q291 x3 x6 x14), []⟩ : St) hn mix (no_hand hΓ) (by kernel_rfl) ?_
                  obtain rfl := Option.some.inj h
                  exact ⟨rfl, Le.refl _ _⟩
                · rintro e st' ⟨rfl, hk⟩
                  refine block_ret ?_
                  refine block_ret ?_
                  refine then_ret ?_
                  obtain rfl := Option.some.inj h
                  exact ⟨(by intro hh; cases hh), rfl, hk⟩
            · replace h := cond_f hb h
              clear hb
              refine awp_exit ?_
              refine then_exit ?_
              obtain rfl := Option.some.inj h
              exact ⟨(by intro hh; cases hh), rfl, le_restrict_eq [] [] (by kernel_rfl) (no_hand hΓ)⟩
          · clear hx26
            rcases x26 with _ | r28
            · rintro e st' ⟨rfl, hl27⟩
              refine block_here ?_
              refine then_normal ?_
              refine awp_le hl27 ?_
              refine rgs0 (⟨[(4, (.bool true))], [], []⟩ : St) hn mix (no_hand hΓ) (by kernel_rfl) ?_
              refine awp_ret ?_
              obtain rfl := Option.some.inj h
              exact ⟨.inl rfl, [], by kernel_rfl⟩
            · rintro e st' ⟨rfl, hk⟩
              refine block_ret ?_
              refine then_ret ?_
              obtain rfl := Option.some.inj h
              exact hk
end Go.Proofs.Ytlnggndmojdcaaa

namespace Go.Proofs.Ytlnggndmojdcaaa
open Go Go.RowKit
set_option linter.unusedVariables false
set_option maxRecDepth 100000
set_option maxHeartbeats 2000000

end Go.Proofs.Ytlnggndmojdcaaa

namespace Go.Proofs.Ytlnggndmojdcaaa
open Go Go.RowKit

theorem w64_of {n : Int} (h : -9223372036854775808 ≤ n) (h' : n < 9223372036854775808) : w64 n = n := by
  show IntKind.i64.wrap n = n
  simp only [IntKind.wrap, IntKind.bits, IntKind.signed]
  simp
  split <;> omega
theorem wu64_of {n : Int} (h : 0 ≤ n) (h' : n < 18446744073709551616) : wu64 n = n := by
  show IntKind.u64.wrap n = n
  simp [IntKind.wrap, IntKind.bits, IntKind.signed]
  omega
theorem wu64_mod (n : Int) : wu64 n = n % 18446744073709551616 := by
  show IntKind.u64.wrap n = _
  simp [IntKind.wrap, IntKind.bits, IntKind.signed]
theorem wu8_of {n : Int} (h : 0 ≤ n) (h' : n < 256) : wu8 n = n := by
  show IntKind.u8.wrap n = n
  simp [IntKind.wrap, IntKind.bits, IntKind.signed]
  omega
theorem wu8_mod (n : Int) : wu8 n = n % 256 := by
  show IntKind.u8.wrap n = _
  simp [IntKind.wrap, IntKind.bits, IntKind.signed]

theorem ofInt_nat (w n : Nat) (h : n < 2 ^ w) : (BitVec.ofInt w (n : Int)).toNat = n := by
  rw [BitVec.toNat_ofInt, ← Int.natCast_emod, Int.toNat_natCast, Nat.mod_eq_of_lt h]

theorem uwrap_of (k : IntKind) (hk : k.signed = false) {n : Nat} (h : n < 2 ^ k.bits) : k.wrap (n : Int) = n := by
  simp only [IntKind.wrap, hk, Bool.false_and, Bool.false_eq_true, if_false]
  have : ((2 : Int) ^ k.bits) = ((2 ^ k.bits : Nat) : Int) := by simp
  rw [this, ← Int.natCast_emod, Nat.mod_eq_of_lt h]

theorem bits_and (k : IntKind) (hk : k.signed = false) {a b : Nat} (ha : a < 2 ^ k.bits) (hb : b < 2 ^ k.bits) : bitsV .and k a b = ((a &&& b : Nat) : Int) := by
  simp only [bitsV, BitVec.toNat_and, ofInt_nat _ _ ha, ofInt_nat _ _ hb]
  exact uwrap_of k hk (Nat.lt_of_le_of_lt Nat.and_le_left ha)
theorem bits_or (k : IntKind) (hk : k.signed = false) {a b : Nat} (ha : a < 2 ^ k.bits) (hb : b < 2 ^ k.bits) : bitsV .or k a b = ((a ||| b : Nat) : Int) := by
  simp only [bitsV, BitVec.toNat_or, ofInt_nat _ _ ha, ofInt_nat _ _ hb]
  exact uwrap_of k hk (Nat.or_lt_two_pow ha hb)
theorem bits_xor (k : IntKind) (hk : k.signed = false) {a b : Nat} (ha : a < 2 ^ k.bits) (hb : b < 2 ^ k.bits) : bitsV .xor k a b = ((a ^^^ b : Nat) : Int) := by
  simp only [bitsV, BitVec.toNat_xor, ofInt_nat _ _ ha, ofInt_nat _ _ hb]
  exact uwrap_of k hk (Nat.xor_lt_two_pow ha hb)

theorem and_low (k : IntKind) (hk : k.signed = false) (j : Nat) (hj : j ≤ k.bits) {a : Nat} (ha : a < 2 ^ k.bits) {m : Int} (hm : m = ((2 ^ j - 1 : Nat) : Int)) : bitsV .and k a m = ((a % 2 ^ j : Nat) : Int) := by
  subst hm
  rw [bits_and k hk ha, Nat.and_two_pow_sub_one_eq_mod]
  have := Nat.pow_le_pow_right (n := 2) (by omega) hj
  have := Nat.two_pow_pos j
  omega
theorem or_add (k : IntKind) (hk : k.signed = false) (j : Nat) {a b : Nat} (ha : a < 2 ^ j) (hb : a + b * 2 ^ j < 2 ^ k.bits) {y : Int} (hy : y = ((b * 2 ^ j : Nat) : Int)) : bitsV .or k a y = ((a + b * 2 ^ j : Nat) : Int) := by
  subst hy
  rw [bits_or k hk (by omega) (by omega), Nat.or_comm, Nat.mul_comm b, ← Nat.two_pow_add_eq_or_of_lt ha, Nat.add_comm]

theorem chk_pos' {R : Type} {p : Prop} [Decidable p] {k : Option R} (h : p) : chk p k = k := if_pos h
theorem scopeO_self {S X : Type} (f : S → Option (LR S X)) (s : S) : scopeO (f s) f = loopO f s := by
  unfold scopeO
  cases h : f s with
  | none => rw [Option.bind_none, loopO_none h]
  | some y => cases y with
    | next s' => rw [loopO_next h]; rfl
    | done x => rw [loopO_done h]; rfl
theorem fdiv_pow {x : Int} (j : Nat) : x.fdiv (2 ^ j) = x / 2 ^ j := by rw [Int.fdiv_eq_ediv_of_nonneg _ (by exact Int.le_of_lt (Int.pow_pos (by decide)))]
theorem toNat_cast {n : Nat} : ((n : Int)).toNat = n := rfl

/-- What is asked of each element in turn. -/
theorem getD_eq_of_lt {α : Type} (l : List α) (i : Nat) (d : α) (h : i < l.length) : l.getD i d = l[i] := by simp [List.getD, h]
theorem take_succ_getD {α : Type} (l : List α) (i : Nat) (d : α) (h : i < l.length) : l.take (i + 1) = l.take i ++ [l.getD i d] := by
  rw [List.take_add_one, getD_eq_of_lt _ _ _ h]; simp [h]
theorem bytesF_eq {l : List Int} {f : Nat → List AV} (h : ∀ i, f i = [.int .u8 (l.getD i 0)]) : bytesF l.length f = l := by
  apply List.ext_getElem (by simp [bytesF])
  intro i h1 h2
  simp only [bytesF, List.getElem_map, List.getElem_range, h, AV.num]
  exact getD_eq_of_lt _ _ _ h2
theorem byteF_of {l : List Int} {f : Nat → List AV} (h : ∀ i, f i = [.int .u8 (l.getD i 0)]) (hl : ∀ x ∈ l, 0 ≤ x ∧ x < 256) : ByteF l.length f := fun i hi => by
  rw [h i]
  refine ⟨rfl, ?_⟩
  simp only [AV.num]
  rw [getD_eq_of_lt _ _ _ hi]
  exact hl _ (List.getElem_mem hi)
theorem two64 : (2 : Nat) ^ 64 = 18446744073709551616 := by decide
end Go.Proofs.Ytlnggndmojdcaaa

namespace Go.Proofs.Ytlnggndmojdcaaa
open Go Go.RowKit
set_option linter.unusedVariables false

/-- Over a list, till one does not fit. -/
theorem loop_all {α X : Type} (l : List α) (d : α) (p : α → Bool) (f : Int → Option (LR Int X)) (yes no : X) (hn : ∀ i : Nat, i < l.length → p (l.getD i d) = true → f i = some (.next ((i : Int) + 1)))
    (hf : ∀ i : Nat, i < l.length → p (l.getD i d) = false → f i = some (.done no)) (he : f l.length = some (.done yes)) : ∀ (k i : Nat), i + k = l.length → loopO f i = some (bif (l.drop i).all p then yes else no)
  | 0, i, h => by
    obtain rfl : i = l.length := by omega
    rw [loopO_done he]
    simp
  | k + 1, i, h => by
    have hi : i < l.length := by omega
    have hd : l.drop i = l.getD i d :: l.drop (i + 1) := by rw [List.drop_eq_getElem_cons hi, getD_eq_of_lt _ _ _ hi]
    cases hp : p (l.getD i d) with
    | true =>
      rw [loopO_next (hn i hi hp)]
      have := loop_all l d p f yes no hn hf he k (i + 1) (by omega)
      rw [show ((i : Int) + 1) = ((i + 1 : Nat) : Int) by omega, this, hd, List.all_cons, hp, Bool.true_and]
    | false =>
      rw [loopO_done (hf i hi hp), hd, List.all_cons, hp, Bool.false_and, cond_false]

/-- A list, element by element. -/
theorem loop_build {α X : Type} (n : Nat) (g : Nat → α) (f : List α × Int → Option (LR (List α × Int) X)) (out : List α → X) (hn : ∀ (l : List α) (i : Nat), i < n → l.length = i → f (l, (i : Int)) = some (.next (l ++ [g i], (i : Int) + 1)))
    (he : ∀ l : List α, l.length = n → f (l, (n : Int)) = some (.done (out l))) : ∀ (k i : Nat) (l : List α), i + k = n → l = (List.range i).map g → loopO f (l, (i : Int)) = some (out ((List.range n).map g))
  | 0, i, l, h, hl => by
    obtain rfl : i = n := by omega
    subst hl
    exact loopO_done (he _ (by simp))
  | k + 1, i, l, h, hl => by
    subst hl
    rw [loopO_next (hn _ i (by omega) (by simp)), show ((i : Int) + 1) = ((i + 1 : Nat) : Int) by omega]
    exact loop_build n g f out hn he k (i + 1) _ (by omega) (by simp [List.range_succ])

/-- Two lists of one length, till they part. -/
theorem loop_eq {α X : Type} [BEq α] [LawfulBEq α] (l m : List α) (d : α) (f : Int → Option (LR Int X)) (yes no : X) (hlen : l.length = m.length) (hn : ∀ i : Nat, i < l.length → (l.getD i d == m.getD i d) = true → f i = some (.next ((i : Int) + 1)))
    (hf : ∀ i : Nat, i < l.length → (l.getD i d == m.getD i d) = false → f i = some (.done no)) (he : f l.length = some (.done yes)) : ∀ (k i : Nat), i + k = l.length → loopO f i = some (bif l.drop i == m.drop i then yes else no)
  | 0, i, h => by
    obtain rfl : i = l.length := by omega
    rw [loopO_done he]
    rw [List.drop_length, hlen, List.drop_length]
    simp
  | k + 1, i, h => by
    have hi : i < l.length := by omega
    have hd : l.drop i = l.getD i d :: l.drop (i + 1) := by rw [List.drop_eq_getElem_cons hi, getD_eq_of_lt _ _ _ hi]
    have hd' : m.drop i = m.getD i d :: m.drop (i + 1) := by rw [List.drop_eq_getElem_cons (by omega), getD_eq_of_lt _ _ _ (by omega)]
    cases hp : (l.getD i d == m.getD i d) with
    | true =>
      rw [loopO_next (hn i hi hp)]
      have := loop_eq l m d f yes no hlen hn hf he k (i + 1) (by omega)
      rw [show ((i : Int) + 1) = ((i + 1 : Nat) : Int) by omega, this, hd, hd', List.cons_beq_cons, hp, Bool.true_and]
    | false =>
      rw [loopO_done (hf i hi hp), hd, hd', List.cons_beq_cons, hp, Bool.false_and, cond_false]
/-- Counted up, till it is too much. -/
theorem loop_sum {α : Type} (l : List α) (d : α) (wt : α → Nat) (C : Nat) (f : Int × Int → Option (LR (Int × Int) Int))
    (hn : ∀ (n i : Nat), i < l.length → n ≤ C → ∃ m : Nat, f ((n : Int), (i : Int)) = some (.next ((m : Int), ((i + 1 : Nat) : Int))) ∧ (n + wt (l.getD i d) ≤ C → m = n + wt (l.getD i d)) ∧ (m ≤ C → n + wt (l.getD i d) ≤ C))
    (hd : ∀ (n i : Nat), i ≤ l.length → (i = l.length ∨ C < n) → f ((n : Int), (i : Int)) = some (.done (n : Int))) :
    ∀ (k i n : Nat), i + k = l.length → ∃ m : Nat, loopO f ((n : Int), (i : Int)) = some (m : Int) ∧ (n + ((l.drop i).map wt).sum ≤ C → m = n + ((l.drop i).map wt).sum) ∧ (m ≤ C → n + ((l.drop i).map wt).sum ≤ C)
  | 0, i, n, h => by
    obtain rfl : i = l.length := by omega
    refine ⟨n, loopO_done (hd n _ (Nat.le_refl _) (.inl rfl)), ?_, ?_⟩
    · simp
    · simp
  | k + 1, i, n, h => by
    have hi : i < l.length := by omega
    have hdr : l.drop i = l.getD i d :: l.drop (i + 1) := by rw [List.drop_eq_getElem_cons hi, getD_eq_of_lt _ _ _ hi]
    by_cases hC : n ≤ C
    · obtain ⟨m, h1, h2, h3⟩ := hn n i hi hC
      obtain ⟨m', h4, h5, h6⟩ := loop_sum l d wt C f hn hd k (i + 1) m (by omega)
      refine ⟨m', by rw [loopO_next h1]; exact h4, fun hle => ?_, fun hle => ?_⟩
      · rw [hdr, List.map_cons, List.sum_cons] at hle ⊢
        have := h2 (by omega)
        subst this
        rw [h5 (by omega)]
        omega
      · rw [hdr, List.map_cons, List.sum_cons]
        have h7 := h6 hle
        have h8 := h3 (by omega)
        have := h2 h8
        omega
    · refine ⟨n, loopO_done (hd n i (by omega) (.inr (by omega))), fun hle => by omega, fun hle => by omega⟩

/-- Whatever is counted: it ends. -/
theorem loop_total {X : Type} (N : Nat) (f : Int × Int → Option (LR (Int × Int) X)) (hn : ∀ (n : Int) (i : Nat), i < N → (∃ m : Int, f (n, (i : Int)) = some (.next (m, ((i + 1 : Nat) : Int)))) ∨ ∃ x, f (n, (i : Int)) = some (.done x)) (hd : ∀ n : Int, ∃ x, f (n, (N : Int)) = some (.done x)) :
    ∀ (k i : Nat) (n : Int), i + k = N → ∃ x, loopO f (n, (i : Int)) = some x
  | 0, i, n, h => by
    obtain rfl : i = N := by omega
    obtain ⟨x, hx⟩ := hd n
    exact ⟨x, loopO_done hx⟩
  | k + 1, i, n, h => by
    rcases hn n i (by omega) with ⟨m, hm⟩ | ⟨x, hx⟩
    · obtain ⟨x, hx⟩ := loop_total N f hn hd k (i + 1) m (by omega)
      exact ⟨x, by rw [loopO_next hm]; exact hx⟩
    · exact ⟨x, loopO_done hx⟩
/-- Counted up, as words. -/
theorem loop_addw {α X : Type} (l : List α) (d : α) (wt : α → Nat) (out : Int → X) (f : Int × Int → Option (LR (Int × Int) X))
    (hn : ∀ (n i : Nat), i < l.length → f (w64 n, (i : Int)) = some (.next (w64 ((n + wt (l.getD i d) : Nat) : Int), ((i + 1 : Nat) : Int)))) (hd : ∀ n : Int, f (n, (l.length : Int)) = some (.done (out n))) :
    ∀ (k i n : Nat), i + k = l.length → loopO f (w64 n, (i : Int)) = some (out (w64 ((n + ((l.drop i).map wt).sum : Nat) : Int)))
  | 0, i, n, h => by
    obtain rfl : i = l.length := by omega
    rw [loopO_done (hd _)]
    simp
  | k + 1, i, n, h => by
    have hi : i < l.length := by omega
    have hdr : l.drop i = l.getD i d :: l.drop (i + 1) := by rw [List.drop_eq_getElem_cons hi, getD_eq_of_lt _ _ _ hi]
    rw [loopO_next (hn n i hi), loop_addw l d wt out f hn hd k (i + 1) _ (by omega), hdr, List.map_cons, List.sum_cons, Nat.add_assoc]
theorem w64_add (a b : Int) : w64 (w64 a + b) = w64 (a + b) := by
  show IntKind.i64.wrap (IntKind.i64.wrap a + b) = IntKind.i64.wrap (a + b)
  simp only [IntKind.wrap, IntKind.bits, IntKind.signed]
  simp
  split <;> split <;> omega

/-- Counted up. -/
theorem loop_add {α X : Type} (l : List α) (d : α) (wt : α → Nat) (M : Nat) (out : Int → X) (f : Int × Int → Option (LR (Int × Int) X))
    (hn : ∀ (n i : Nat), i < l.length → n + wt (l.getD i d) ≤ M → f ((n : Int), (i : Int)) = some (.next (((n + wt (l.getD i d) : Nat) : Int), ((i + 1 : Nat) : Int))))
    (hd : ∀ n : Nat, f ((n : Int), (l.length : Int)) = some (.done (out n))) :
    ∀ (k i n : Nat), i + k = l.length → n + ((l.drop i).map wt).sum ≤ M → loopO f ((n : Int), (i : Int)) = some (out ((n + ((l.drop i).map wt).sum : Nat) : Int))
  | 0, i, n, h, _ => by
    obtain rfl : i = l.length := by omega
    rw [loopO_done (hd n)]
    simp
  | k + 1, i, n, h, hM => by
    have hi : i < l.length := by omega
    have hdr : l.drop i = l.getD i d :: l.drop (i + 1) := by rw [List.drop_eq_getElem_cons hi, getD_eq_of_lt _ _ _ hi]
    rw [hdr, List.map_cons, List.sum_cons] at hM
    rw [loopO_next (hn n i hi (by omega)), loop_add l d wt M out f hn hd k (i + 1) _ (by omega) (by omega), hdr, List.map_cons, List.sum_cons, Nat.add_assoc]

/-- Put together, piece behind piece. -/
theorem loop_append {α β : Type} (l : List α) (d : α) (E : α → List β) (M : Nat) (f : List β × Int → Option (LR (List β × Int) (List β)))
    (hn : ∀ (out : List β) (i : Nat), i < l.length → out.length + (E (l.getD i d)).length ≤ M → f (out, (i : Int)) = some (.next (out ++ E (l.getD i d), ((i + 1 : Nat) : Int))))
    (hd : ∀ out : List β, f (out, (l.length : Int)) = some (.done out)) :
    ∀ (k i : Nat) (out : List β), i + k = l.length → out.length + ((l.drop i).map E).flatten.length ≤ M → loopO f (out, (i : Int)) = some (out ++ ((l.drop i).map E).flatten)
  | 0, i, out, h, _ => by
    obtain rfl : i = l.length := by omega
    rw [loopO_done (hd out)]
    simp
  | k + 1, i, out, h, hM => by
    have hi : i < l.length := by omega
    have hdr : l.drop i = l.getD i d :: l.drop (i + 1) := by rw [List.drop_eq_getElem_cons hi, getD_eq_of_lt _ _ _ hi]
    rw [hdr, List.map_cons, List.flatten_cons, List.length_append] at hM
    rw [loopO_next (hn out i hi (by omega)), loop_append l d E M f hn hd k (i + 1) _ (by omega) (by rw [List.length_append]; omega), hdr, List.map_cons, List.flatten_cons, List.append_assoc]
theorem flat_bound {α β : Type} (l : List α) (E : α → List β) (B : Nat) (h : ∀ a ∈ l, (E a).length ≤ B) : (l.map E).flatten.length ≤ l.length * B := by
  induction l with
  | nil => simp
  | cons a l ih =>
    have h1 := h a (by simp)
    have h2 := ih (fun b hb => h b (by simp [hb]))
    rw [List.map_cons, List.flatten_cons, List.length_append, List.length_cons, Nat.add_mul]
    omega
theorem getD_mem {α : Type} {l : List α} {i : Nat} {d : α} (h : i < l.length) : l.getD i d ∈ l := by rw [getD_eq_of_lt _ _ _ h]; exact List.getElem_mem h
theorem inB_nat {i n : Nat} (h : i < n) : InB (i : Int) n := ⟨by omega, by exact_mod_cast h⟩
theorem w64_succ {i n : Nat} (h : i < n) (hn : n < 9223372036854775808) : w64 ((i : Int) + 1) = (i : Int) + 1 := w64_of (by omega) (by omega)
def good31 (l : List Int) : Prop := ∀ x ∈ l, 0 ≤ x ∧ x ≤ 2147483647
end Go.Proofs.Ytlnggndmojdcaaa

namespace Go.Proofs.Ytlnggndmojdcaaa
open Go Go.RowKit
set_option linter.unusedVariables false
set_option linter.unusedSimpArgs false

/-! ### Loops, step by step -/
theorem loop_seq {S X : Type} (f : S → Option (LR S X)) (T : Nat → S) (x : X) : ∀ (n : Nat), (∀ i, i < n → f (T i) = some (.next (T (i + 1)))) → f (T n) = some (.done x) → loopO f (T 0) = some x := by
  suffices h : ∀ (k i n : Nat), i + k = n → (∀ j, i ≤ j → j < n → f (T j) = some (.next (T (j + 1)))) → f (T n) = some (.done x) → loopO f (T i) = some x from
    fun n h1 h2 => h n 0 n (by omega) (fun j _ hj => h1 j hj) h2
  intro k
  induction k with
  | zero =>
    intro i n hi _ h2
    have hin : n = i := by omega
    subst hin
    exact loopO_done h2
  | succ k ih => intro i n hi h1 h2; rw [loopO_next (h1 i (Nat.le_refl _) (by omega))]; exact ih (i + 1) n (by omega) (fun j hj hj' => h1 j (by omega) hj') h2
theorem loop_seq_part {S X : Type} (f : S → Option (LR S X)) (T : Nat → S) : ∀ (n : Nat), (∀ i, i < n → f (T i) = some (.next (T (i + 1)))) → loopO f (T 0) = loopO f (T n) := by
  intro n
  induction n with
  | zero => intro _; rfl
  | succ n ih => intro h; rw [ih (fun i hi => h i (by omega)), loopO_next (h n (by omega))]
/-- .. till one does not fit. -/
theorem loop_find {S X : Type} (f : S → Option (LR S X)) (T : Nat → S) (p : Nat → Bool) (yes no : X) (n : Nat) (hn : ∀ i, i < n → p i = true → f (T i) = some (.next (T (i + 1)))) (hf : ∀ i, i < n → p i = false → f (T i) = some (.done no))
    (he : f (T n) = some (.done yes)) : loopO f (T 0) = some (bif (List.range n).all p then yes else no) := by
  cases hall : (List.range n).all p with
  | true =>
    rw [cond_true]
    exact loop_seq f T yes n (fun i hi => hn i hi (List.all_eq_true.1 hall i (List.mem_range.2 hi))) he
  | false =>
    rw [cond_false]
    have hex : ∃ i, i < n ∧ p i = false := by
      have : ¬ ∀ i ∈ List.range n, p i = true := fun h => by rw [List.all_eq_true.2 h] at hall; cases hall
      simpa using this
    let P : Nat → Prop := fun m => m < n ∧ p m = false
    obtain ⟨m, hm⟩ := hex
    have key : ∀ m, m < n → p m = false → ∃ k, k < n ∧ p k = false ∧ ∀ j, j < k → p j = true := by
      intro m
      induction m using Nat.strongRecOn with
      | ind m ih =>
        intro h1 h2
        by_cases h : ∃ j, j < m ∧ p j = false
        · obtain ⟨j, hj, hpj⟩ := h
          exact ih j hj (by omega) hpj
        · refine ⟨m, h1, h2, fun j hj => ?_⟩
          cases hpj : p j with
          | true => rfl
          | false => exact (h ⟨j, hj, hpj⟩).elim
    obtain ⟨k, hk, hpk, hlt⟩ := key m hm.1 hm.2
    rw [loop_seq_part f T k (fun i hi => hn i (by omega) (hlt i hi))]
    exact loopO_done (hf k hk hpk)

theorem all_range {n : Nat} {p : Nat → Bool} : (List.range n).all p = true ↔ ∀ i, i < n → p i = true := by
  rw [List.all_eq_true]
  exact ⟨fun h i hi => h i (List.mem_range.2 hi), fun h i hi => h i (List.mem_range.1 hi)⟩
theorem nat_nat (i : Nat) : ((i : Int)).toNat = i := Int.toNat_natCast i
theorem w1 {i : Nat} (h : i < 4611686018427387904) : w64 ((i : Int) + 1) = ((i + 1 : Nat) : Int) := by rw [w64_of (by omega) (by omega)]; omega
theorem dlt {i n : Nat} : decide (((i : Nat) : Int) < ((n : Nat) : Int)) = decide (i < n) := by simp
theorem dlt_t {i n : Nat} (h : i < n) : decide (((i : Nat) : Int) < ((n : Nat) : Int)) = true := by simpa using h
theorem dlt_f {n : Nat} : decide (((n : Nat) : Int) < ((n : Nat) : Int)) = false := by simp
theorem inb {i n : Nat} (h : i < n) : InB ((i : Nat) : Int) n := inB_nat h
theorem inbz {x : Int} {n : Nat} (h0 : 0 ≤ x) (h1 : x < n) : InB x n := ⟨h0, h1⟩
theorem room_big : (64 : Nat) ≤ room := by decide

/-! ### Which may be -/
/-- One element of a list of places: more than the one ahead, and a place. -/
def okAt (n : Nat) (l : List Int) (i : Nat) : Bool := decide ((if i = 0 then (-1 : Int) else l.getD (i - 1) 0) < l.getD i 0) && (decide (0 ≤ l.getD i 0) && decide (l.getD i 0 < n))
def okL (n : Nat) (l : List Int) : Bool := (List.range l.length).all (okAt n l)
def mayS (L : List (List Int)) : Bool := decide (1 ≤ L.length) && decide (L.length ≤ 64) && (List.range L.length).all fun i => okL L.length (L.getD i [])
def goesB (L : List (List Int)) (k i : Nat) : Bool := (L.getD k []).contains (i : Int)
/-- Those that go on at 'i', of the first 'm'. -/
def predAt (L : List (List Int)) (m i : Nat) : List Int := ((List.range m).filter fun k => goesB L k i).map Int.ofNat
def predOf (L : List (List Int)) : List (List Int) := (List.range L.length).map (predAt L L.length)

theorem m_isPlace (a n : Int) : m_graph_isPlace a n = some (decide (0 ≤ a) && decide (a < n)) := by
  unfold m_graph_isPlace
  cases decide ((0 : Int) ≤ a) <;> rfl
theorem m_isCount (n : Nat) : m_graph_isCount (n : Int) = some (decide (1 ≤ n) && decide (n ≤ 64)) := by
  unfold m_graph_isCount
  have h1 : decide ((1 : Int) ≤ (n : Int)) = decide (1 ≤ n) := by apply decide_eq_decide.2; omega
  have h2 : decide ((n : Int) ≤ (64 : Int)) = decide (n ≤ 64) := by apply decide_eq_decide.2; omega
  rw [h1, h2]
  cases decide (1 ≤ n) <;> rfl

theorem succMay_L1 (L : List (List Int)) (i : Nat) (hl : (L.getD i []).length < 4611686018427387904) :
    loopO (m_graph_succMay_L1 L (i : Int)) ((-1 : Int), (0 : Int)) = some (bif okL L.length (L.getD i []) then .inl () else .inr false) := by
  refine loop_find (m_graph_succMay_L1 L (i : Int)) (fun j => ((if j = 0 then (-1 : Int) else (L.getD i []).getD (j - 1) 0), ((j : Nat) : Int))) (okAt L.length (L.getD i [])) (.inl ()) (.inr false) _ (fun j hj hp => ?_) (fun j hj hp => ?_) ?_
  · unfold okAt at hp
    simp only [Bool.and_eq_true, decide_eq_true_eq] at hp
    obtain ⟨h1, h2, h3⟩ := hp
    show m_graph_succMay_L1 L (i : Int) (_, _) = _
    unfold m_graph_succMay_L1
    simp only [nat_nat, dlt_t hj, cond_true, m_isPlace]
    rw [chk_pos (inb hj)]
    have e1 : decide ((L.getD i []).getD j 0 ≤ (if j = 0 then (-1 : Int) else (L.getD i []).getD (j - 1) 0)) = false := by simpa using h1
    simp only [e1, decide_eq_true h2, decide_eq_true h3, Bool.and_self, beq_self_eq_true, cond_true, cond_false, Option.bind_some, Bool.not_true]
    rw [w1 (show j < 4611686018427387904 by omega)]
    simp
  · show m_graph_succMay_L1 L (i : Int) (_, _) = _
    unfold m_graph_succMay_L1
    simp only [nat_nat, dlt_t hj, cond_true, m_isPlace]
    rw [chk_pos (inb hj)]
    cases h1 : decide ((L.getD i []).getD j 0 ≤ (if j = 0 then (-1 : Int) else (L.getD i []).getD (j - 1) 0)) with
    | true => simp only [cond_true, show ((true == false) = false) from rfl, cond_false, Option.bind_some]
    | false =>
      have h1' : decide ((if j = 0 then (-1 : Int) else (L.getD i []).getD (j - 1) 0) < (L.getD i []).getD j 0) = true := by simpa using h1
      unfold okAt at hp
      rw [h1', Bool.true_and] at hp
      simp only [beq_self_eq_true, cond_true, cond_false, Option.bind_some, hp, Bool.not_false]
  · show m_graph_succMay_L1 L (i : Int) (_, _) = _
    unfold m_graph_succMay_L1
    simp only [nat_nat, dlt_f, cond_false]

/-- No list is longer than any machine's memory. -/
def Fits (L : List (List Int)) : Prop := L.length < 4611686018427387904 ∧ ∀ l ∈ L, l.length < 4611686018427387904
theorem Fits.at {L : List (List Int)} (h : Fits L) (i : Nat) : (L.getD i []).length < 4611686018427387904 := by
  by_cases hi : i < L.length
  · exact h.2 _ (getD_mem hi)
  · rw [List.getD_eq_getElem?_getD, List.getElem?_eq_none (by omega)]; simp
theorem m_succMay (L : List (List Int)) (h : Fits L) : m_graph_succMay L = some (mayS L) := by
  unfold m_graph_succMay
  rw [m_isCount, Option.bind_some]
  unfold mayS
  cases hc : (decide (1 ≤ L.length) && decide (L.length ≤ 64)) with
  | false => rfl
  | true =>
    simp only [Bool.not_true, cond_false, Bool.true_and]
    have := loop_find (m_graph_succMay_L2 L) (fun j => ((j : Nat) : Int)) (fun i => okL L.length (L.getD i [])) (.inl ()) (.inr false) L.length (fun j hj hp => ?_) (fun j hj hp => ?_) ?_
    · rw [show loopO (m_graph_succMay_L2 L) (0 : Int) = _ from this]
      cases (List.range L.length).all fun i => okL L.length (L.getD i []) <;> rfl
    · show m_graph_succMay_L2 L (j : Int) = _
      unfold m_graph_succMay_L2
      simp only [dlt_t hj, cond_true]
      rw [chk_pos (inb hj), succMay_L1 L j (h.at j), hp]
      simp only [cond_true, Option.bind_some, w1 (show j < 4611686018427387904 by have := h.1; omega)]
    · show m_graph_succMay_L2 L (j : Int) = _
      unfold m_graph_succMay_L2
      simp only [dlt_t hj, cond_true]
      rw [chk_pos (inb hj), succMay_L1 L j (h.at j), hp]
      rfl
    · show m_graph_succMay_L2 L _ = _
      unfold m_graph_succMay_L2
      simp only [dlt_f, cond_false]
end Go.Proofs.Ytlnggndmojdcaaa

namespace Go.Proofs.Ytlnggndmojdcaaa
open Go Go.RowKit
set_option linter.unusedVariables false
set_option linter.unusedSimpArgs false

theorem getD_mr {α : Type} {n i : Nat} {g : Nat → α} {d : α} (h : i < n) : ((List.range n).map g).getD i d = g i := by simp [List.getD, h]
theorem set_mr {α : Type} {n i : Nat} {g : Nat → α} {x : α} : ((List.range n).map g).set i x = (List.range n).map fun j => if j = i then x else g j := by
  apply List.ext_getElem?
  intro j
  rw [List.getElem?_set]
  by_cases hj : j < n
  · by_cases hij : i = j
    · subst hij; simp [hj]
    · simp [hij, hj, Ne.symm hij]
  · simp [hj]
    intro h; omega
theorem mr_congr {α : Type} {n : Nat} {g h : Nat → α} (H : ∀ i, i < n → g i = h i) : (List.range n).map g = (List.range n).map h := List.map_congr_left fun i hi => H i (List.mem_range.1 hi)

theorem mayS_iff {L : List (List Int)} : mayS L = true ↔ 1 ≤ L.length ∧ L.length ≤ 64 ∧ ∀ i, i < L.length → okL L.length (L.getD i []) = true := by
  unfold mayS
  rw [Bool.and_eq_true, Bool.and_eq_true, all_range]
  simp only [decide_eq_true_eq]
  exact ⟨fun ⟨⟨a, b⟩, c⟩ => ⟨a, b, c⟩, fun ⟨a, b, c⟩ => ⟨⟨a, b⟩, c⟩⟩
theorem okL_iff {n : Nat} {l : List Int} : okL n l = true ↔ ∀ i, i < l.length → (0 ≤ l.getD i 0 ∧ l.getD i 0 < n) ∧ (0 < i → l.getD (i - 1) 0 < l.getD i 0) := by
  unfold okL
  rw [all_range]
  unfold okAt
  simp only [Bool.and_eq_true, decide_eq_true_eq]
  constructor
  · intro h i hi
    obtain ⟨h1, h2, h3⟩ := h i hi
    refine ⟨⟨h2, h3⟩, fun hp => ?_⟩
    rwa [if_neg (by omega)] at h1
  · intro h i hi
    obtain ⟨⟨h2, h3⟩, h1⟩ := h i hi
    refine ⟨?_, h2, h3⟩
    by_cases hz : i = 0
    · rw [if_pos hz]; omega
    · rw [if_neg hz]; exact h1 (by omega)
section
variable {n : Nat} {l : List Int} (h : okL n l = true)
include h
theorem okL_at {i : Nat} (hi : i < l.length) : 0 ≤ l.getD i 0 ∧ l.getD i 0 < n := (okL_iff.1 h i hi).1
theorem okL_lt {i j : Nat} (hij : i < j) (hj : j < l.length) : l.getD i 0 < l.getD j 0 := by
  induction j with
  | zero => omega
  | succ j ih =>
    have h1 := (okL_iff.1 h (j + 1) hj).2 (by omega)
    rw [show j + 1 - 1 = j by omega] at h1
    by_cases he : i = j
    · rw [he]; exact h1
    · exact Int.lt_trans (ih (by omega) (by omega)) h1
theorem okL_ge {i : Nat} (hi : i < l.length) : (i : Int) ≤ l.getD i 0 := by
  induction i with
  | zero => exact (okL_at h hi).1
  | succ i ih =>
    have := okL_lt h (show i < i + 1 by omega) hi
    have := ih (by omega)
    omega
theorem okL_len : l.length ≤ n := by
  by_cases hz : l.length = 0
  · omega
  · have h1 := okL_ge h (show l.length - 1 < l.length by omega)
    have h2 := (okL_at h (show l.length - 1 < l.length by omega)).2
    omega
theorem okL_mem {x : Int} (hx : x ∈ l) : 0 ≤ x ∧ x < n := by
  obtain ⟨i, hi, rfl⟩ := List.getElem_of_mem hx
  have := okL_at h hi
  rwa [getD_eq_of_lt _ _ _ hi] at this
theorem okL_pair : l.Pairwise (· < ·) := by
  rw [List.pairwise_iff_getElem]
  intro i j hi hj hij
  have := okL_lt h hij hj
  rwa [getD_eq_of_lt _ _ _ hi, getD_eq_of_lt _ _ _ hj] at this
end
theorem okL_of {n : Nat} {l : List Int} (h1 : ∀ x ∈ l, 0 ≤ x ∧ x < n) (h2 : l.Pairwise (· < ·)) : okL n l = true := by
  rw [okL_iff]
  intro i hi
  rw [getD_eq_of_lt _ _ _ hi]
  refine ⟨h1 _ (List.getElem_mem hi), fun hp => ?_⟩
  rw [getD_eq_of_lt _ _ _ (show i - 1 < l.length by omega)]
  exact (List.pairwise_iff_getElem.1 h2) _ _ _ _ (by omega)
theorem mayS_fits {L : List (List Int)} (h : mayS L = true) : L.length ≤ 64 ∧ ∀ l ∈ L, l.length ≤ 64 := by
  obtain ⟨h1, h2, h3⟩ := mayS_iff.1 h
  refine ⟨h2, fun l hl => ?_⟩
  obtain ⟨i, hi, rfl⟩ := List.getElem_of_mem hl
  have := okL_len (h3 i hi)
  rw [getD_eq_of_lt _ _ _ hi] at this
  omega
theorem fits_of {L : List (List Int)} (h : L.length ≤ 1000 ∧ ∀ l ∈ L, l.length ≤ 1000) : Fits L := ⟨by omega, fun l hl => by have := h.2 l hl; omega⟩

/-! ### Copies -/
theorem m_clone (l : List Int) (h : l.length ≤ room) : m_slices_Clone_int_int l = some l := by
  unfold m_slices_Clone_int_int
  rw [chk_pos (by simpa using h)]
  simp
theorem m_copied (L : List (List Int)) (h : L.length ≤ 1000 ∧ ∀ l ∈ L, l.length ≤ 1000) : m_graph_copied L = some L := by
  have hroom : (1000 : Nat) ≤ room := by decide
  unfold m_graph_copied
  rw [chk_pos ⟨by omega, Int.le_refl _, by omega⟩, nat_nat]
  have : loopO (m_graph_copied_L1 L) ((0 : Int), (List.range L.length).map fun i => if i < 0 then L.getD i [] else []) = some L := loop_seq (m_graph_copied_L1 L) (fun j => (((j : Nat) : Int), (List.range L.length).map fun i => if i < j then L.getD i [] else [])) L L.length (fun j hj => ?_) ?_
  · have e0 : (List.replicate L.length ([] : List Int)) = (List.range L.length).map fun i => if i < 0 then L.getD i [] else [] := by
      apply List.ext_getElem?
      intro i
      by_cases hi : i < L.length <;> simp [hi, List.getElem?_replicate]
    rw [e0, this]; rfl
  · show m_graph_copied_L1 L (_, _) = _
    unfold m_graph_copied_L1
    simp only [nat_nat, dlt_t hj, cond_true]
    rw [chk_pos (inb hj), m_clone _ (by have := h.2 _ (getD_mem (d := []) hj); omega), Option.bind_some, chk_pos (inb (by simpa using hj)), set_mr, w1 (by omega)]
    congr 3
    apply mr_congr
    intro i hi
    by_cases h1 : i = j
    · subst h1; simp
    · by_cases h2 : i < j
      · simp [h1, h2, show i < j + 1 by omega]
      · simp [h1, h2, show ¬ i < j + 1 by omega]
  · show m_graph_copied_L1 L (_, _) = _
    unfold m_graph_copied_L1
    simp only [dlt_f, cond_false]
    congr 2
    apply List.ext_getElem?
    intro i
    by_cases hi : i < L.length
    · simp [hi]
    · simp [hi]

/-! ### Who goes on at whom -/
theorem predAt_succ (L : List (List Int)) (k i : Nat) : predAt L (k + 1) i = predAt L k i ++ (if goesB L k i = true then [(k : Int)] else []) := by
  unfold predAt
  rw [List.range_succ, List.filter_append, List.map_append]
  congr 1
  cases hg : goesB L k i <;> simp [hg]
theorem predAt_len (L : List (List Int)) (k i : Nat) : (predAt L k i).length ≤ k := by
  unfold predAt
  rw [List.length_map]
  have := List.length_filter_le (fun k => goesB L k i) (List.range k)
  simpa using this
theorem getD_take {l : List Int} {j : Nat} (hj : j < l.length) : l.take (j + 1) = l.take j ++ [l.getD j 0] := by
  rw [getD_eq_of_lt _ _ _ hj, List.take_succ_eq_append_getElem hj]
def inTake (L : List (List Int)) (k j i : Nat) : Bool := ((L.getD k []).take j).contains (i : Int)
def rowsAt (L : List (List Int)) (k j : Nat) : List (List Int) := (List.range L.length).map fun i => predAt L k i ++ (if inTake L k j i = true then [(k : Int)] else [])
theorem comers_step (L : List (List Int)) (h : mayS L = true) (k j : Nat) (hk : k < L.length) (hj : j < (L.getD k []).length) :
    (rowsAt L k j).set ((L.getD k []).getD j 0).toNat ((rowsAt L k j).getD ((L.getD k []).getD j 0).toNat [] ++ [(k : Int)]) = rowsAt L k (j + 1) := by
  obtain ⟨h1, h2, h3⟩ := mayS_iff.1 h
  have hok := h3 k hk
  obtain ⟨a0, a1⟩ := okL_at hok hj
  unfold rowsAt
  rw [getD_mr (by omega), set_mr]
  apply mr_congr
  intro i hi
  have hnot : inTake L k j ((L.getD k []).getD j 0).toNat = false := by
    unfold inTake
    rw [Int.toNat_of_nonneg a0]
    cases hc : ((L.getD k []).take j).contains ((L.getD k []).getD j 0) with
    | false => rfl
    | true =>
      rw [List.contains_iff_mem] at hc
      obtain ⟨m, hm, he⟩ := List.getElem_of_mem hc
      have hm' : m < j := by simp at hm; omega
      rw [List.getElem_take] at he
      have := okL_lt hok hm' hj
      rw [getD_eq_of_lt _ _ _ (show m < (L.getD k []).length by omega), he] at this
      omega
  by_cases hi2 : i = ((L.getD k []).getD j 0).toNat
  · rw [if_pos hi2, hnot]
    have : inTake L k (j + 1) i = true := by
      unfold inTake
      rw [getD_take hj, List.contains_iff_mem, hi2, Int.toNat_of_nonneg a0]
      simp
    rw [this, hi2]
    simp
  · rw [if_neg hi2]
    have : inTake L k (j + 1) i = inTake L k j i := by
      unfold inTake
      rw [getD_take hj, Bool.eq_iff_iff, List.contains_iff_mem, List.contains_iff_mem, List.mem_append]
      constructor
      · rintro (hm | hm)
        · exact hm
        · simp only [List.mem_singleton] at hm; exact (hi2 (by omega)).elim
      · exact .inl
    rw [this]
theorem m_comers (L : List (List Int)) (h : mayS L = true) : m_graph_comers L = some (predOf L) := by
  obtain ⟨h1, h2, h3⟩ := mayS_iff.1 h
  have hroom : (1000 : Nat) ≤ room := by decide
  unfold m_graph_comers
  rw [chk_pos ⟨by omega, Int.le_refl _, by omega⟩, nat_nat]
  have inner : ∀ k, k < L.length → loopO (m_graph_comers_L1 L (k : Int)) ((0 : Int), rowsAt L k 0) = some (rowsAt L k (L.getD k []).length) := fun k hk => by
    have hok := h3 k hk
    refine loop_seq (m_graph_comers_L1 L (k : Int)) (fun j => (((j : Nat) : Int), rowsAt L k j)) (rowsAt L k (L.getD k []).length) (L.getD k []).length (fun j hj => ?_) ?_
    · obtain ⟨a0, a1⟩ := okL_at hok hj
      have hlen : (rowsAt L k j).length = L.length := by simp [rowsAt]
      have hl64 := okL_len hok
      show m_graph_comers_L1 L (k : Int) (_, _) = _
      unfold m_graph_comers_L1
      simp only [nat_nat, dlt_t hj, cond_true]
      have hb : InB ((L.getD k []).getD j 0) (rowsAt L k j).length := ⟨a0, by rw [hlen]; exact a1⟩
      have hrow : ((rowsAt L k j).getD ((L.getD k []).getD j 0).toNat []).length ≤ k + 1 := by
        unfold rowsAt
        rw [getD_mr (by omega), List.length_append]
        have := predAt_len L k ((L.getD k []).getD j 0).toNat
        split
        · rw [List.length_singleton]; omega
        · rw [List.length_nil]; omega
      rw [chk_pos (inb hj), chk_pos hb, chk_pos hb, chk_pos (by simp only [List.length_singleton]; omega), chk_pos hb, comers_step L h k j hk hj, w1 (by omega)]
    · show m_graph_comers_L1 L (k : Int) (_, _) = _
      unfold m_graph_comers_L1
      simp only [nat_nat, dlt_f, cond_false]
  have r0 : ∀ k, rowsAt L k 0 = (List.range L.length).map (predAt L k) := fun k => by
    unfold rowsAt
    apply mr_congr
    intro i _
    simp [inTake]
  have r1 : ∀ k, rowsAt L k (L.getD k []).length = (List.range L.length).map (predAt L (k + 1)) := fun k => by
    unfold rowsAt
    apply mr_congr
    intro i _
    rw [predAt_succ]
    unfold inTake goesB
    rw [List.take_length]
  have : loopO (m_graph_comers_L2 L) ((0 : Int), (List.range L.length).map (predAt L 0)) = some (predOf L) := loop_seq (m_graph_comers_L2 L) (fun k => (((k : Nat) : Int), (List.range L.length).map (predAt L k))) (predOf L) L.length (fun k hk => ?_) ?_
  · have e0 : (List.replicate L.length ([] : List Int)) = (List.range L.length).map (predAt L 0) := by
      apply List.ext_getElem?
      intro i
      by_cases hi : i < L.length <;> simp [hi, List.getElem?_replicate, predAt]
    rw [e0, this]; rfl
  · show m_graph_comers_L2 L (_, _) = _
    unfold m_graph_comers_L2
    simp only [dlt_t hk, cond_true]
    rw [chk_pos (inb hk), ← r0, inner k hk, r1, w1 (by omega)]
    rfl
  · show m_graph_comers_L2 L (_, _) = _
    unfold m_graph_comers_L2
    simp only [dlt_f, cond_false]
    rfl
end Go.Proofs.Ytlnggndmojdcaaa

namespace Go.Proofs.Ytlnggndmojdcaaa
open Go Go.RowKit
set_option linter.unusedVariables false
set_option linter.unusedSimpArgs false

theorem list_eq_all {α : Type} [DecidableEq α] {a b : List α} {d : α} (h : a.length = b.length) : ((List.range a.length).all fun i => decide (a.getD i d = b.getD i d)) = decide (a = b) := by
  rw [Bool.eq_iff_iff, all_range, decide_eq_true_eq]
  constructor
  · intro hall
    apply List.ext_getElem h
    intro i h1 h2
    have := of_decide_eq_true (hall i h1)
    rwa [getD_eq_of_lt _ _ _ h1, getD_eq_of_lt _ _ _ h2] at this
  · rintro rfl i _
    simp
theorem lens_ne {a b : Nat} : (((a : Nat) : Int) != (b : Int)) = decide (a ≠ b) := by
  rw [Bool.eq_iff_iff, bne_iff_ne, decide_eq_true_eq]
  omega
theorem int_ne {a b : Int} : (a != b) = !decide (a = b) := by
  rw [Bool.eq_iff_iff]
  simp
theorem m_equal (a b : List Int) (hb : b.length < 4611686018427387904) : m_slices_Equal_int_int a b = some (decide (a = b)) := by
  unfold m_slices_Equal_int_int
  rw [lens_ne]
  by_cases hl : a.length = b.length
  · rw [decide_eq_false (by simpa using hl), cond_false]
    have : loopO (m_slices_Equal_int_int_L1 a b) (0 : Int) = _ := loop_find (m_slices_Equal_int_int_L1 a b) (fun j => ((j : Nat) : Int)) (fun i => decide (a.getD i 0 = b.getD i 0)) (.inl ()) (.inr false) a.length (fun j hj hp => ?_) (fun j hj hp => ?_) ?_
    · rw [this, list_eq_all hl]
      cases decide (a = b) <;> rfl
    · show m_slices_Equal_int_int_L1 a b (j : Int) = _
      unfold m_slices_Equal_int_int_L1
      simp only [nat_nat, dlt_t hj, cond_true]
      rw [chk_pos (inb hj), chk_pos (inb (by omega)), int_ne, hp, w1 (by omega)]
      rfl
    · show m_slices_Equal_int_int_L1 a b (j : Int) = _
      unfold m_slices_Equal_int_int_L1
      simp only [nat_nat, dlt_t hj, cond_true]
      rw [chk_pos (inb hj), chk_pos (inb (by omega)), int_ne, hp]
      rfl
    · show m_slices_Equal_int_int_L1 a b _ = _
      unfold m_slices_Equal_int_int_L1
      simp only [dlt_f, cond_false]
  · rw [decide_eq_true (by simpa using hl), cond_true, decide_eq_false (fun h => hl (by rw [h]))]
theorem m_ints (a b : List Int) (ha : a.length < 4611686018427387904) : m_lockstepref02_Ints a b = some (decide (a = b)) := by
  unfold m_lockstepref02_Ints
  rw [lens_ne]
  by_cases hl : a.length = b.length
  · rw [decide_eq_false (by simpa using hl), cond_false]
    have : loopO (m_lockstepref02_Ints_L1 a b) (0 : Int) = _ := loop_find (m_lockstepref02_Ints_L1 a b) (fun j => ((j : Nat) : Int)) (fun i => decide (a.getD i 0 = b.getD i 0)) (.inl ()) (.inr false) a.length (fun j hj hp => ?_) (fun j hj hp => ?_) ?_
    · rw [this, list_eq_all hl]
      cases decide (a = b) <;> rfl
    · show m_lockstepref02_Ints_L1 a b (j : Int) = _
      unfold m_lockstepref02_Ints_L1
      simp only [nat_nat, dlt_t hj, cond_true]
      rw [chk_pos (inb hj), chk_pos (inb (by omega)), int_ne, hp, w1 (by omega)]
      rfl
    · show m_lockstepref02_Ints_L1 a b (j : Int) = _
      unfold m_lockstepref02_Ints_L1
      simp only [nat_nat, dlt_t hj, cond_true]
      rw [chk_pos (inb hj), chk_pos (inb (by omega)), int_ne, hp]
      rfl
    · show m_lockstepref02_Ints_L1 a b _ = _
      unfold m_lockstepref02_Ints_L1
      simp only [dlt_f, cond_false]
  · rw [decide_eq_true (by simpa using hl), cond_true, decide_eq_false (fun h => hl (by rw [h]))]
theorem m_equalFunc (a b : List (List Int)) (hb : Fits b) : m_slices_EqualFunc_int_int_int_int a b = some (decide (a = b)) := by
  unfold m_slices_EqualFunc_int_int_int_int
  rw [lens_ne]
  by_cases hl : a.length = b.length
  · rw [decide_eq_false (by simpa using hl), cond_false]
    have hb1 := hb.1
    have : loopO (m_slices_EqualFunc_int_int_int_int_L1 a b) (0 : Int) = _ := loop_find (m_slices_EqualFunc_int_int_int_int_L1 a b) (fun j => ((j : Nat) : Int)) (fun i => decide (a.getD i [] = b.getD i [])) (.inl ()) (.inr false) a.length (fun j hj hp => ?_) (fun j hj hp => ?_) ?_
    · rw [this, list_eq_all hl]
      cases decide (a = b) <;> rfl
    · show m_slices_EqualFunc_int_int_int_int_L1 a b (j : Int) = _
      unfold m_slices_EqualFunc_int_int_int_int_L1
      simp only [nat_nat, dlt_t hj, cond_true]
      rw [chk_pos (inb hj), chk_pos (inb (by omega)), m_equal _ _ (hb.at j), hp, w1 (by omega)]
      rfl
    · show m_slices_EqualFunc_int_int_int_int_L1 a b (j : Int) = _
      unfold m_slices_EqualFunc_int_int_int_int_L1
      simp only [nat_nat, dlt_t hj, cond_true]
      rw [chk_pos (inb hj), chk_pos (inb (by omega)), m_equal _ _ (hb.at j), hp]
      rfl
    · show m_slices_EqualFunc_int_int_int_int_L1 a b _ = _
      unfold m_slices_EqualFunc_int_int_int_int_L1
      simp only [dlt_f, cond_false]
  · rw [decide_eq_true (by simpa using hl), cond_true, decide_eq_false (fun h => hl (by rw [h]))]

theorem predOf_len (L : List (List Int)) : (predOf L).length = L.length := by simp [predOf]
theorem predOf_at {L : List (List Int)} {i : Nat} (hi : i < L.length) : (predOf L).getD i [] = predAt L L.length i := by unfold predOf; rw [getD_mr hi]
theorem predOf_small {L : List (List Int)} (h : mayS L = true) : (predOf L).length ≤ 64 ∧ ∀ l ∈ predOf L, l.length ≤ 64 := by
  obtain ⟨h1, _⟩ := mayS_fits h
  refine ⟨by rw [predOf_len]; exact h1, fun l hl => ?_⟩
  obtain ⟨i, hi, rfl⟩ := List.mem_map.1 hl
  have := predAt_len L L.length i
  omega
theorem small_fits {L : List (List Int)} (h : L.length ≤ 64 ∧ ∀ l ∈ L, l.length ≤ 64) : Fits L := fits_of ⟨by omega, fun l hl => by have := h.2 l hl; omega⟩
theorem small_k {L : List (List Int)} (h : L.length ≤ 64 ∧ ∀ l ∈ L, l.length ≤ 64) : L.length ≤ 1000 ∧ ∀ l ∈ L, l.length ≤ 1000 := ⟨by omega, fun l hl => by have := h.2 l hl; omega⟩

/-- Whether a graph may be. -/
def mayG (g : TGraph) : Bool := mayS g.Succ && decide (g.Pred = predOf g.Succ)
theorem m_may (g : TGraph) (h : Fits g.Succ) : m_graph_May g = some (mayG g) := by
  unfold m_graph_May mayG
  rw [m_succMay _ h, Option.bind_some]
  cases hm : mayS g.Succ with
  | false => rfl
  | true =>
    simp only [beq_self_eq_true, cond_true, m_comers _ hm, Option.bind_some, m_equalFunc _ _ (small_fits (predOf_small hm)), Bool.true_and]
def gOf (L : List (List Int)) : TGraph := ⟨L, predOf L⟩
def g0 : TGraph := ⟨[], []⟩
theorem m_make (L : List (List Int)) (h : Fits L) : m_graph_Make L = some (bif mayS L then (gOf L, 0) else (g0, 5)) := by
  unfold m_graph_Make
  rw [m_succMay _ h, Option.bind_some]
  cases hm : mayS L with
  | false => rfl
  | true =>
    simp only [Bool.not_true, cond_false, m_copied _ (small_k (mayS_fits hm)), m_comers _ hm, Option.bind_some]
    rfl
theorem mayG_gOf {L : List (List Int)} (h : mayS L = true) : mayG (gOf L) = true := by simp [mayG, gOf, h]
/-! ### The document's -/
theorem m_has (l : List Int) (x : Int) (h : l.length < 4611686018427387904) : m_lockstepref06_Has l x = some (l.contains x) := by
  unfold m_lockstepref06_Has
  have : loopO (m_lockstepref06_Has_L1 l x) (0 : Int) = _ := loop_find (m_lockstepref06_Has_L1 l x) (fun j => ((j : Nat) : Int)) (fun i => !decide (l.getD i 0 = x)) (.inl ()) (.inr true) l.length (fun j hj hp => ?_) (fun j hj hp => ?_) ?_
  · rw [this]
    have e : l.contains x = !((List.range l.length).all fun i => !decide (l.getD i 0 = x)) := by
      rw [Bool.eq_iff_iff, List.contains_iff_mem, Bool.not_eq_true', ← Bool.not_eq_true, all_range]
      constructor
      · intro hx hall
        obtain ⟨i, hi, rfl⟩ := List.getElem_of_mem hx
        have := hall i hi
        rw [getD_eq_of_lt _ _ _ hi] at this
        simp at this
      · intro hall
        by_cases hx : x ∈ l
        · exact hx
        · refine (hall fun i hi => ?_).elim
          rw [getD_eq_of_lt _ _ _ hi]
          simp only [Bool.not_eq_true', decide_eq_false_iff_not]
          rintro rfl
          exact hx (List.getElem_mem hi)
    rw [e]
    cases (List.range l.length).all fun i => !decide (l.getD i 0 = x) <;> rfl
  · show m_lockstepref06_Has_L1 l x (j : Int) = _
    unfold m_lockstepref06_Has_L1
    simp only [nat_nat, dlt_t hj, cond_true]
    have : (l.getD j 0 == x) = false := by simpa using hp
    rw [chk_pos (inb hj), this, w1 (by omega)]
    rfl
  · show m_lockstepref06_Has_L1 l x (j : Int) = _
    unfold m_lockstepref06_Has_L1
    simp only [nat_nat, dlt_t hj, cond_true]
    have : (l.getD j 0 == x) = true := by simpa using hp
    rw [chk_pos (inb hj), this]
    rfl
  · show m_lockstepref06_Has_L1 l x _ = _
    unfold m_lockstepref06_Has_L1
    simp only [dlt_f, cond_false]
theorem same_loop {X : Type} (a b : List (List Int)) (f : Int → Option (LR Int (Unit ⊕ Bool))) (ha : Fits a) (hl : a.length = b.length)
    (hn : ∀ i : Nat, i < a.length → f (i : Int) = (m_lockstepref02_Ints (a.getD i []) (b.getD i [])).bind fun x => bif (!x) then some (.done (.inr false)) else some (.next (w64 ((i : Int) + 1)))) (he : f (a.length : Int) = some (.done (.inl ()))) :
    loopO f (0 : Int) = some (bif decide (a = b) then .inl () else .inr false) := by
  have ha1 := ha.1
  have : loopO f (0 : Int) = _ := loop_find f (fun j => ((j : Nat) : Int)) (fun i => decide (a.getD i [] = b.getD i [])) (.inl ()) (.inr false) a.length (fun j hj hp => ?_) (fun j hj hp => ?_) he
  · rw [this, list_eq_all hl]
  · rw [hn j hj, m_ints _ _ (ha.at j), hp, w1 (by omega)]; rfl
  · rw [hn j hj, m_ints _ _ (ha.at j), hp]; rfl
theorem m_same (a b : TGraph) (h1 : Fits a.Succ) (h2 : Fits a.Pred) : m_lockstepref06_Same a b = some (decide (a = b)) := by
  have e : decide (a = b) = (decide (a.Succ = b.Succ) && decide (a.Pred = b.Pred)) := by
    cases a; cases b
    rw [Bool.eq_iff_iff]
    simp
  rw [e]
  unfold m_lockstepref06_Same
  rw [lens_ne, lens_ne]
  by_cases hs : a.Succ.length = b.Succ.length
  · by_cases hp : a.Pred.length = b.Pred.length
    · rw [decide_eq_false (by simpa using hs), cond_false, decide_eq_false (by simpa using hp), cond_false]
      have s1 := same_loop (X := Unit) a.Succ b.Succ (m_lockstepref06_Same_L1 a b) h1 hs (fun i hi => by
        unfold m_lockstepref06_Same_L1
        simp only [nat_nat, dlt_t hi, cond_true]
        rw [chk_pos (inb hi), chk_pos (inb (by omega))]) (by
        unfold m_lockstepref06_Same_L1
        simp only [dlt_f, cond_false])
      have s2 := same_loop (X := Unit) a.Pred b.Pred (m_lockstepref06_Same_L2 a b) h2 hp (fun i hi => by
        unfold m_lockstepref06_Same_L2
        simp only [nat_nat, dlt_t hi, cond_true]
        rw [chk_pos (inb hi), chk_pos (inb (by omega))]) (by
        unfold m_lockstepref06_Same_L2
        simp only [dlt_f, cond_false])
      rw [s1]
      cases decide (a.Succ = b.Succ) with
      | false => rfl
      | true =>
        simp only [cond_true, Option.bind_some, Bool.true_and]
        rw [s2]
        cases decide (a.Pred = b.Pred) <;> rfl
    · rw [decide_eq_true (show a.Pred.length ≠ b.Pred.length from hp), decide_eq_false (p := a.Pred = b.Pred) (fun h => hp (by rw [h]))]
      cases decide (a.Succ.length ≠ b.Succ.length) <;> simp
  · rw [decide_eq_true (show a.Succ.length ≠ b.Succ.length from hs), decide_eq_false (p := a.Succ = b.Succ) (fun h => hs (by rw [h]))]
    simp
end Go.Proofs.Ytlnggndmojdcaaa

namespace Go.Proofs.Ytlnggndmojdcaaa
open Go Go.RowKit
set_option linter.unusedVariables false
set_option linter.unusedSimpArgs false

theorem chk_imp {R : Type} {c : Bool} {q : Prop} [Decidable q] {k : Option R} (h : q) : chk (c = true → q) k = k := chk_pos fun _ => h
theorem chk_off {R : Type} {q : Prop} [Decidable q] {k : Option R} : chk (false = true → q) k = k := chk_pos (by intro h; cases h)
/-- What the document says of one element. -/
def badAt (n : Nat) (l : List Int) (j : Nat) : Bool :=
  bif (bif decide (l.getD j 0 < 0) then true else decide ((n : Int) ≤ l.getD j 0)) then true else (bif decide ((0 : Int) < (j : Int)) then decide (l.getD j 0 ≤ l.getD (j - 1) 0) else false)
theorem bad_ok (n : Nat) (l : List Int) (j : Nat) : badAt n l j = !okAt n l j := by
  unfold badAt okAt
  by_cases h0 : l.getD j 0 < 0
  · have h1 : decide (0 ≤ l.getD j 0) = false := by simpa using h0
    rw [decide_eq_true h0, h1]; simp
  · have h1 : decide (0 ≤ l.getD j 0) = true := by simpa using h0
    rw [decide_eq_false h0, h1]
    by_cases h2 : (n : Int) ≤ l.getD j 0
    · have h3 : decide (l.getD j 0 < (n : Int)) = false := by simpa using h2
      rw [decide_eq_true h2, h3]; simp
    · have h3 : decide (l.getD j 0 < (n : Int)) = true := by simpa using h2
      rw [decide_eq_false h2, h3]
      by_cases hj : j = 0
      · subst hj
        have h4 : decide ((-1 : Int) < l.getD 0 0) = true := decide_eq_true (by omega)
        rw [if_pos rfl, h4]; simp
      · rw [if_neg hj, decide_eq_true (show (0 : Int) < (j : Int) by omega)]
        by_cases h5 : l.getD j 0 ≤ l.getD (j - 1) 0
        · rw [decide_eq_true h5, decide_eq_false (show ¬ l.getD (j - 1) 0 < l.getD j 0 by omega)]; rfl
        · rw [decide_eq_false h5, decide_eq_true (show l.getD (j - 1) 0 < l.getD j 0 by omega)]; rfl
theorem ref_make_L1 (L : List (List Int)) (i : Nat) (hi : i < L.length) (hl : (L.getD i []).length < 4611686018427387904) :
    loopO (m_lockstepref06_Make_L1 L (i : Int)) (0 : Int) = some (bif okL L.length (L.getD i []) then .inl () else .inr (g0, 5)) := by
  have hw : ∀ j : Nat, j < (L.getD i []).length → 0 < j → w64 ((j : Int) - 1) = ((j - 1 : Nat) : Int) := fun j hj hp => by rw [w64_of (by omega) (by omega)]; omega
  have step : ∀ j, j < (L.getD i []).length → m_lockstepref06_Make_L1 L (i : Int) (j : Int) = bif badAt L.length (L.getD i []) j then some (.done (.inr (g0, 5))) else some (.next (((j + 1 : Nat) : Int))) := fun j hj => by
    unfold m_lockstepref06_Make_L1
    simp only [nat_nat, dlt_t hj, cond_true]
    rw [chk_pos (inb hi), chk_pos (inb hi), chk_pos (inb hj), chk_imp (inb hi), chk_imp (inb hj), chk_imp (inb hi), chk_imp (inb hj), chk_imp (inb hi), w1 (by omega)]
    by_cases hz : j = 0
    · subst hz
      have : decide ((0 : Int) < ((0 : Nat) : Int)) = false := by decide
      unfold badAt
      rw [this]
      simp only [cond_false]
      rw [show ((false == true) = false) from rfl, Bool.and_false, chk_off]
      rfl
    · rw [hw j hj (by omega), chk_imp (inb (by omega)), nat_nat]
      rfl
  have := loop_find (m_lockstepref06_Make_L1 L (i : Int)) (fun j => ((j : Nat) : Int)) (okAt L.length (L.getD i [])) (.inl ()) (.inr (g0, 5)) (L.getD i []).length (fun j hj hp => ?_) (fun j hj hp => ?_) ?_
  · exact this
  · show m_lockstepref06_Make_L1 L (i : Int) (j : Int) = _
    rw [step j hj, bad_ok, hp]; rfl
  · show m_lockstepref06_Make_L1 L (i : Int) (j : Int) = _
    rw [step j hj, bad_ok, hp]; rfl
  · show m_lockstepref06_Make_L1 L (i : Int) _ = _
    unfold m_lockstepref06_Make_L1
    simp only [nat_nat, dlt_f, cond_false]
    rw [chk_pos (inb hi)]
theorem ref_make_rows (L : List (List Int)) (h : mayS L = true) : loopO (m_lockstepref06_Make_L4 L) ((0 : Int), List.replicate L.length ([] : List Int)) = some (predOf L) := by
  obtain ⟨h1, h2, h3⟩ := mayS_iff.1 h
  have hroom : (1000 : Nat) ≤ room := by decide
  have hfit := small_fits (mayS_fits h)
  let R : Nat → Nat → List (List Int) := fun i k => (List.range L.length).map fun j => if j < i then predAt L L.length j else if j = i then predAt L k i else []
  have inner : ∀ i, i < L.length → loopO (m_lockstepref06_Make_L3 L (i : Int)) ((0 : Int), R i 0) = some (R i L.length) := fun i hi => by
    refine loop_seq (m_lockstepref06_Make_L3 L (i : Int)) (fun k => (((k : Nat) : Int), R i k)) (R i L.length) L.length (fun k hk => ?_) ?_
    · show m_lockstepref06_Make_L3 L (i : Int) (_, _) = _
      have hlen : (R i k).length = L.length := by simp [R]
      have hat : (R i k).getD i [] = predAt L k i := by simp only [R]; rw [getD_mr hi]; simp
      unfold m_lockstepref06_Make_L3
      simp only [nat_nat, dlt_t hk, cond_true]
      rw [chk_pos (inb hk), m_has _ _ (hfit.at k), Option.bind_some, w1 (by omega)]
      have hg : goesB L k i = (L.getD k []).contains (i : Int) := rfl
      rw [← hg, hat]
      have hs : (if goesB L k i = true then (R i k).set i (predAt L k i ++ [(k : Int)]) else R i k) = R i (k + 1) := by
        split
        · rename_i hgo
          simp only [R]
          rw [set_mr]
          apply mr_congr
          intro j hj
          by_cases hji : j = i
          · subst hji; simp [predAt_succ, hgo]
          · simp [hji]
        · rename_i hgo
          simp only [R]
          apply mr_congr
          intro j hj
          by_cases hji : j = i
          · subst hji; simp [predAt_succ, hgo]
          · simp [hji]
      rw [← hs]
      cases hgo : goesB L k i with
      | false => rfl
      | true =>
        have := predAt_len L k i
        simp only [cond_true]
        rw [chk_pos (by rw [hlen]; exact inb hi), chk_pos (by rw [hlen]; exact inb hi), chk_pos (by rw [List.length_singleton]; omega), chk_pos (by rw [hlen]; exact inb hi)]
        rfl
    · show m_lockstepref06_Make_L3 L (i : Int) (_, _) = _
      unfold m_lockstepref06_Make_L3
      simp only [dlt_f, cond_false]
  have : loopO (m_lockstepref06_Make_L4 L) ((0 : Int), R 0 0) = some (predOf L) := loop_seq (m_lockstepref06_Make_L4 L) (fun i => (((i : Nat) : Int), R i 0)) (predOf L) L.length (fun i hi => ?_) ?_
  · have e0 : List.replicate L.length ([] : List Int) = R 0 0 := by
      simp only [R]
      apply List.ext_getElem?
      intro j
      by_cases hj : j < L.length <;> simp [hj, List.getElem?_replicate, predAt]
    rw [e0, this]
  · show m_lockstepref06_Make_L4 L (_, _) = _
    unfold m_lockstepref06_Make_L4
    simp only [dlt_t hi, cond_true]
    rw [inner i hi, w1 (by omega)]
    simp only [Option.bind_some]
    congr 3
    simp only [R]
    apply mr_congr
    intro j hj
    by_cases h4 : j < i
    · simp [h4, show j < i + 1 by omega]
    · by_cases h5 : j = i
      · subst h5; simp
      · simp [h4, h5, show ¬ j < i + 1 by omega]
        intro h6
        simp [predAt]
  · show m_lockstepref06_Make_L4 L (_, _) = _
    unfold m_lockstepref06_Make_L4
    simp only [dlt_f, cond_false]
    congr 2
    simp only [R, predOf]
    apply mr_congr
    intro j hj
    simp [hj]
theorem m_ref_make (L : List (List Int)) (h : Fits L) : m_lockstepref06_Make L = some (bif mayS L then (gOf L, 0) else (g0, 5)) := by
  have hroom : (1000 : Nat) ≤ room := by decide
  unfold m_lockstepref06_Make
  have hc : (bif ((L.length : Int) == (0 : Int)) then true else decide ((64 : Int) < (L.length : Int))) = !(decide (1 ≤ L.length) && decide (L.length ≤ 64)) := by
    by_cases h0 : L.length = 0
    · rw [h0]; rfl
    · rw [show ((L.length : Int) == 0) = false by simp only [beq_eq_false_iff_ne]; omega, decide_eq_true (show 1 ≤ L.length by omega)]
      by_cases h1 : L.length ≤ 64
      · rw [decide_eq_true h1, decide_eq_false (show ¬ (64 : Int) < (L.length : Int) by omega)]; rfl
      · rw [decide_eq_false h1, decide_eq_true (show (64 : Int) < (L.length : Int) by omega)]; rfl
  rw [hc]
  have hm : mayS L = ((decide (1 ≤ L.length) && decide (L.length ≤ 64)) && (List.range L.length).all fun i => okL L.length (L.getD i [])) := rfl
  cases hb : (decide (1 ≤ L.length) && decide (L.length ≤ 64)) with
  | false => rw [hm, hb]; rfl
  | true =>
    simp only [Bool.not_true, cond_false]
    have hb' := hb
    simp only [Bool.and_eq_true, decide_eq_true_eq] at hb'
    have : loopO (m_lockstepref06_Make_L2 L) (0 : Int) = _ := loop_find (m_lockstepref06_Make_L2 L) (fun j => ((j : Nat) : Int)) (fun i => okL L.length (L.getD i [])) (.inl ()) (.inr (g0, 5)) L.length (fun j hj hp => ?_) (fun j hj hp => ?_) ?_
    · rw [this]
      cases hall : (List.range L.length).all fun i => okL L.length (L.getD i []) with
      | false => rw [hm, hb, hall]; rfl
      | true =>
        have hmay : mayS L = true := by rw [hm, hb, hall]; rfl
        rw [hmay]
        simp only [cond_true, Option.bind_some]
        rw [chk_pos ⟨by omega, Int.le_refl _, by omega⟩, nat_nat, ref_make_rows L hmay]
        rfl
    · show m_lockstepref06_Make_L2 L (j : Int) = _
      unfold m_lockstepref06_Make_L2
      simp only [dlt_t hj, cond_true]
      rw [ref_make_L1 L j hj (h.at j), hp, w1 (by omega)]
      rfl
    · show m_lockstepref06_Make_L2 L (j : Int) = _
      unfold m_lockstepref06_Make_L2
      simp only [dlt_t hj, cond_true]
      rw [ref_make_L1 L j hj (h.at j), hp]
      rfl
    · show m_lockstepref06_Make_L2 L _ = _
      unfold m_lockstepref06_Make_L2
      simp only [dlt_f, cond_false]
theorem gOf_fits {L : List (List Int)} (h : mayS L = true) : Fits (gOf L).Succ ∧ Fits (gOf L).Pred := ⟨small_fits (mayS_fits h), small_fits (predOf_small h)⟩
theorem m_ref_may (g : TGraph) (h : Fits g.Succ) : m_lockstepref06_May g = some (mayG g) := by
  unfold m_lockstepref06_May mayG
  rw [m_ref_make _ h, Option.bind_some]
  cases hm : mayS g.Succ with
  | false => rfl
  | true =>
    simp only [cond_true, beq_self_eq_true, Bool.true_and]
    rw [m_same _ _ (gOf_fits hm).1 (gOf_fits hm).2]
    simp only [Option.bind_some]
    congr 1
    apply decide_eq_decide.2
    cases g with
    | mk s p =>
      simp only [gOf, TGraph.mk.injEq, true_and]
      exact eq_comm
/-- Which are gone through. -/
def smallS (L : List (List Int)) : Bool := (List.range L.length).all fun i => decide ((L.getD i []).length ≤ 100) && decide (i ≤ 100)
theorem m_small (L : List (List Int)) (hL : L.length < 9223372036854775808) : m_lockstepref06_Small L = some (smallS L) := by
  unfold m_lockstepref06_Small
  have step : ∀ j : Nat, j < L.length → m_lockstepref06_Small_L1 L (j : Int) = bif (decide ((L.getD j []).length ≤ 100) && decide (j ≤ 100)) then some (.next (((j + 1 : Nat) : Int))) else some (.done (.inr false)) := fun j hj => by
    unfold m_lockstepref06_Small_L1
    simp only [nat_nat, dlt_t hj, cond_true]
    rw [chk_pos (inb hj)]
    have hw : w64 ((j : Int) + 1) = ((j + 1 : Nat) : Int) := by rw [w64_of (by omega) (by omega)]; omega
    rw [hw]
    by_cases h1 : (L.getD j []).length ≤ 100
    · rw [decide_eq_true h1, decide_eq_false (show ¬ (100 : Int) < ((L.getD j []).length : Int) by omega)]
      by_cases h2 : j ≤ 100
      · rw [decide_eq_true h2, decide_eq_false (show ¬ (100 : Int) < (j : Int) by omega)]; rfl
      · rw [decide_eq_false h2, decide_eq_true (show (100 : Int) < (j : Int) by omega)]; rfl
    · rw [decide_eq_false h1, decide_eq_true (show (100 : Int) < ((L.getD j []).length : Int) by omega)]; rfl
  have : loopO (m_lockstepref06_Small_L1 L) (0 : Int) = _ := loop_find (m_lockstepref06_Small_L1 L) (fun j => ((j : Nat) : Int)) (fun i => decide ((L.getD i []).length ≤ 100) && decide (i ≤ 100)) (.inl ()) (.inr false) L.length (fun j hj hp => ?_) (fun j hj hp => ?_) ?_
  · rw [this]
    unfold smallS
    cases (List.range L.length).all fun i => decide ((L.getD i []).length ≤ 100) && decide (i ≤ 100) <;> rfl
  · show m_lockstepref06_Small_L1 L (j : Int) = _
    rw [step j hj, hp]; rfl
  · show m_lockstepref06_Small_L1 L (j : Int) = _
    rw [step j hj, hp]; rfl
  · show m_lockstepref06_Small_L1 L _ = _
    unfold m_lockstepref06_Small_L1
    simp only [dlt_f, cond_false]
theorem smallS_fits {L : List (List Int)} (h : smallS L = true) : Fits L := by
  unfold smallS at h
  rw [all_range] at h
  simp only [Bool.and_eq_true, decide_eq_true_eq] at h
  refine fits_of ⟨?_, fun l hl => ?_⟩
  · by_cases h0 : L.length = 0
    · omega
    · have := (h (L.length - 1) (by omega)).2; omega
  · obtain ⟨i, hi, rfl⟩ := List.getElem_of_mem hl
    have := (h i hi).1
    rw [getD_eq_of_lt _ _ _ hi] at this
    omega
end Go.Proofs.Ytlnggndmojdcaaa
