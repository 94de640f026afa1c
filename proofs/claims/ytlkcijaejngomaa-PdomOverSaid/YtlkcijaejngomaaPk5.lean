/-
  The machine, the program's functions and the laws' arithmetic: part 5 of 6.
-/
import Derived.Test.YtlkcijaejngomaaPk4
set_option linter.unusedVariables false
set_option linter.unusedSimpArgs false
namespace Go.Proofs.Ytlkcijaejngomaa
open Go Go.RowKit
set_option linter.unusedVariables false
set_option maxRecDepth 100000
set_option maxHeartbeats 2000000
noncomputable def m_dom_Tree_L1 (a_g : TGraph) (x3 : List (Int)) : (Bool × Int × List (Int)) → Option (LR (Bool × Int × List (Int)) (Bool × List (Int))) :=
  fun ((b7, i8, l9) : (Bool × Int × List (Int))) => (bif (decide ((i8 : Int) < ((x3.drop ((1 : Int)).toNat).length : Int))) then (Option.bind (α := (Bool × List (Int))) (chk (InB i8 (x3.drop ((1 : Int)).toNat).length) (chk (InB ((x3.drop ((1 : Int)).toNat).getD (i8).toNat (0 : Int)) a_g.Pred.length) ((m_dom_meetAll_v2 l9 (a_g.Pred.getD (((x3.drop ((1 : Int)).toNat).getD (i8).toNat (0 : Int))).toNat [])).bind fun x16 => (chk (l9.length = x16.2.length) (chk (InB ((x3.drop ((1 : Int)).toNat).getD (i8).toNat (0 : Int)) x16.2.length) (bif ((x16.1 : Int) != (x16.2.getD (((x3.drop ((1 : Int)).toNat).getD (i8).toNat (0 : Int))).toNat (0 : Int))) then (chk (InB ((x3.drop ((1 : Int)).toNat).getD (i8).toNat (0 : Int)) x16.2.length) (some ((true, (x16.2.set (((x3.drop ((1 : Int)).toNat).getD (i8).toNat (0 : Int))).toNat x16.1))))) else (some ((b7, x16.2))))))))) (fun x20 => (match x20 with | (b12, l13) => (some (.next (b12, (w64 (i8 + (1 : Int))), l13)))))) else (some (.done (b7, l9))))
noncomputable def m_dom_Tree_L2 (a_g : TGraph) (l1 : List (Int)) : (Bool × Int × List (Int)) → Option (LR (Bool × Int × List (Int)) (Bool × List (Int))) :=
  fun ((b25, i26, l27) : (Bool × Int × List (Int))) => (bif (decide ((i26 : Int) < ((l1.drop ((1 : Int)).toNat).length : Int))) then (Option.bind (α := (Bool × List (Int))) (chk (InB i26 (l1.drop ((1 : Int)).toNat).length) (chk (InB ((l1.drop ((1 : Int)).toNat).getD (i26).toNat (0 : Int)) a_g.Pred.length) ((m_dom_meetAll_v2 l27 (a_g.Pred.getD (((l1.drop ((1 : Int)).toNat).getD (i26).toNat (0 : Int))).toNat [])).bind fun x34 => (chk (l27.length = x34.2.length) (chk (InB ((l1.drop ((1 : Int)).toNat).getD (i26).toNat (0 : Int)) x34.2.length) (bif ((x34.1 : Int) != (x34.2.getD (((l1.drop ((1 : Int)).toNat).getD (i26).toNat (0 : Int))).toNat (0 : Int))) then (chk (InB ((l1.drop ((1 : Int)).toNat).getD (i26).toNat (0 : Int)) x34.2.length) (some ((true, (x34.2.set (((l1.drop ((1 : Int)).toNat).getD (i26).toNat (0 : Int))).toNat x34.1))))) else (some ((b25, x34.2))))))))) (fun x38 => (match x38 with | (b30, l31) => (some (.next (b30, (w64 (i26 + (1 : Int))), l31)))))) else (some (.done (b25, l27))))
noncomputable def m_dom_Tree_F3 (a_g : TGraph) : (List (Int) × List (Int)) → Option (LR (List (Int) × List (Int)) (List (Int))) :=
  fun (s_ : (List (Int) × List (Int))) => match s_ with | (l1, l2) => (chk (0 ≤ (1 : Int) ∧ (1 : Int) ≤ (l1.length : Int)) ((loopO (S := (Bool × Int × List (Int))) (X := (Bool × List (Int))) (m_dom_Tree_L2 a_g l1) (false, (0 : Int), l2)).bind (fun x40 => (match x40 with | (b28, l29) => (bif b28 then (some (.next (l1, l29))) else (some (.done l29)))))))
noncomputable def Q159 (l1 : List (Int)) := (l1.drop ((1 : Int)).toNat)
noncomputable def Q160 (x3 : List (Int)) := (x3.drop ((1 : Int)).toNat)
noncomputable def Q179 := (fun n_ => memB n_ [2, 13, 21])
noncomputable def Q163 (x4 : List (Int)) (a_root : Int) := (x4.set (a_root).toNat (-1 : Int))
noncomputable def Q174 (l1 : List (Int)) : AV := (.int .i64 ((Q159 l1).length : Int))
noncomputable def Q175 (x3 : List (Int)) : AV := (.int .i64 ((Q160 x3).length : Int))
noncomputable def Q173 (x3 : List (Int)) (i8 : Int) := ((Q160 x3).getD (i8).toNat (0 : Int))
noncomputable def Q167 (l11 : List (Int)) := (fun i => eI64 (l11.getD i (0 : Int)))
noncomputable def Q168 (l27 : List (Int)) := (fun i => eI64 (l27.getD i (0 : Int)))
noncomputable def Q169 (l29 : List (Int)) := (fun i => eI64 (l29.getD i (0 : Int)))
noncomputable def Q172 (l1 : List (Int)) (i26 : Int) := ((Q159 l1).getD (i26).toNat (0 : Int))
noncomputable def Q161 (x3 : List (Int)) : AV := (AV.list 1 eI64 (0 : Int) x3 (.own 13))
noncomputable def Q162 (l1 : List (Int)) : AV := (AV.list 1 eI64 (0 : Int) l1 (.own 13))
noncomputable def Q165 (x16 : (Int × List (Int))) := (fun i => eI64 (x16.2.getD i (0 : Int)))
noncomputable def Q166 (x34 : (Int × List (Int))) := (fun i => eI64 (x34.2.getD i (0 : Int)))
noncomputable def Q170 (l1 : List (Int)) : AV := (AV.list 1 eI64 (0 : Int) (Q159 l1) .none)
noncomputable def Q171 (x3 : List (Int)) : AV := (AV.list 1 eI64 (0 : Int) (Q160 x3) .none)
noncomputable def Q164 : AV := (AV.list 1 eI64 (0 : Int) ([] : List Int) .exact)
noncomputable def Q158 (a_g : TGraph) : List AV := [(AV.list 1 eLI64 [] a_g.Succ .none), (AV.list 1 eLI64 [] a_g.Pred .none)]
noncomputable def Q177 (a_g : TGraph) (l1 : List (Int)) (l27 : List (Int)) : List (Nat × Own) := [(2, .row 26 (Q158 a_g)), (13, .tok 1 3 l1.length), (21, .arr 1 3 l27.length (Q168 l27))]
noncomputable def Q176 (a_g : TGraph) (x3 : List (Int)) (l9 : List (Int)) : List (Nat × Own) := [(2, .row 26 (Q158 a_g)), (13, .tok 1 3 x3.length), (21, .arr 1 3 l9.length (fun i => eI64 (l9.getD i (0 : Int))))]
noncomputable def Q178 (a_g : TGraph) (l1 : List (Int)) (l2 : List (Int)) : List (Nat × Own) := [(2, .row 26 (Q158 a_g)), (13, .tok 1 3 l1.length), (21, .arr 1 3 l2.length (fun i => eI64 (l2.getD i (0 : Int))))]
noncomputable def Q180 := (⟨[(4, (AV.list 1 eI64 (0 : Int) ([] : List Int) (.own 6004)))], [(6004, .tok 1 3 (([] : List Int).length))], []⟩ : St)
noncomputable def m_dom_Tree (a_g : TGraph) (a_root : Int) : Option (List (Int)) :=
  ((scopeO (S := (List (Int) × List (Int))) (X := List (Int)) ((m_graph_Order a_g a_root).bind fun x3 => (bif (((x3.length : Int) : Int) == (0 : Int)) then (some (.done ([] : List Int))) else ((m_slices_Repeat_int_int ([(-2 : Int)] : List (Int)) (a_g.Succ.length : Int)).bind fun x4 => (chk (InB a_root x4.length) (chk (0 ≤ (1 : Int) ∧ (1 : Int) ≤ (x3.length : Int)) ((loopO (S := (Bool × Int × List (Int))) (X := (Bool × List (Int))) (m_dom_Tree_L1 a_g x3) (false, (0 : Int), (x4.set (a_root).toNat (-1 : Int)))).bind (fun x22 => (match x22 with | (b10, l11) => (bif b10 then (some (.next (x3, l11))) else (some (.done l11))))))))))) (m_dom_Tree_F3 a_g)).bind (fun x42 => ((some x42))))
theorem ok_dom_Tree (a_g : TGraph) (a_root : Int) (r : List (Int)) (h : m_dom_Tree a_g a_root = some r) : Spec Try.prog 20 [(.agg (eTGraph a_g)), (.int .i64 a_root)] [] (AV.list 1 eI64 (0 : Int) r (.own 20000)) [(20000, .tok 1 3 r.length)] := by
  refine spec_of_awp (fn := Try.f20) Try.func20 rfl rfl (by kernel_rfl) (fun Γ hn hΓ => ?_)
  have hn : Γ.n = 52 := hn
  unfold m_dom_Tree at h
  refine rgs [] [(4, Q164)] (⟨[(1, (.int .i64 a_root)), (2, (.ptr 2 0))], [(2, .row 26 (Q158 a_g))], []⟩ : St) [(AVle (.slice 0 0 (fun _ => []) .exact) Q164)] hn mix (no_hand hΓ) (by kernel_rfl) ⟨av_nil, trivial⟩ ?_
  obtain ⟨x42, hx42, h⟩ := bind_some h
  refine awp_scope (S := (List (Int) × List (Int))) (X := List (Int)) (fun (s_ : (List (Int) × List (Int))) => match s_ with | (l1, l2) => 0) (fun (s_ : (List (Int) × List (Int))) => match s_ with | (l1, l2) => (⟨[(2, (.ptr 2 0)), (5, (Q162 l1)), (6, (.vsl 21 l2.length))], (Q178 a_g l1 l2), []⟩ : St)) _ _ (fun (r_ : List (Int)) (e : Exit) (st : St) => e = .ret ∧ retK Try.prog Try.f20.results.toList [] (AV.list 1 eI64 (0 : Int) r_ (.own 20000)) [(20000, .tok 1 3 r_.length)] e st) ?_ ?_ hx42 ?_
  · clear h hx42
    intro y h
    obtain ⟨x3, hx3, h⟩ := bind_some h
    refine rgs [⟨[], [(20000, 13)], (AV.list 1 eI64 (0 : Int) x3 (.own 20000)), [(20000, .tok 1 3 x3.length)], []⟩] [] (⟨[(1, (.int .i64 a_root)), (2, (.ptr 2 0)), (5, (Q161 x3))], [(2, .row 26 (Q158 a_g)), (13, .tok 1 3 x3.length)], []⟩ : St) [(Spec Try.prog 30 [(.agg (eTGraph a_g)), (.int .i64 a_root)] [] (AV.list 1 eI64 (0 : Int) x3 (.own 20000)) [(20000, .tok 1 3 x3.length)])] hn mix (no_hand hΓ) (by kernel_rfl) ⟨(ok_graph_Order a_g a_root x3 hx3), trivial⟩ ?_
    refine awp_seq ?_
    refine rgs0 (⟨[(1, (.int .i64 a_root)), (2, (.ptr 2 0)), (5, (Q161 x3)), (16, (.bool (((x3.length : Int) : Int) == (0 : Int))))], [(2, .row 26 (Q158 a_g)), (13, .tok 1 3 x3.length)], []⟩ : St) hn mix (no_hand hΓ) (by kernel_rfl) ?_
    refine awp_cond (((x3.length : Int) : Int) == (0 : Int)) (by kernel_rfl) (fun hb => ?_) (fun hb => ?_)
    · replace h := cond_t hb h
      clear hb
      refine rgs [] [(4, Q164)] (⟨[(4, Q164)], [], []⟩ : St) [(AVle (.slice 0 0 (fun _ => []) .exact) Q164)] hn mix (no_hand hΓ) (by kernel_rfl) ⟨av_nil, trivial⟩ ?_
      refine awp_le (st' := Q180) (Le.trans (le_restrict_eq (st' := (⟨[(4, Q164)], [], []⟩ : St)) [4] [] (by kernel_rfl) (no_hand hΓ)) (Le.trans (le_tag (t := 4) (nm := 6004) (sz' := 1) (fun i => eI64 (([] : List Int).getD i (0 : Int))) 3 rfl rfl (.inl ⟨rfl, rfl⟩) (fun h_ => absurd h_ (by decide))) (le_restrict_eq (st' := Q180) [4] [6004] (by kernel_rfl) (no_hand hΓ)))) ?_
      refine awp_ret ?_
      refine then_ret ?_
      obtain rfl := Option.some.inj h
      exact ⟨(by intro l hh; cases hh), rfl, ⟨.inl rfl, [(6004, 20000)], by kernel_rfl⟩⟩
    · replace h := cond_f hb h
      clear hb
      refine awp_skip ?_
      refine then_normal ?_
      obtain ⟨x4, hx4, h⟩ := bind_some h
      refine rgs [⟨[], [(20000, 21)], (.vsl 20000 x4.length), [(20000, .arr 1 3 x4.length (fun i => eI64 (x4.getD i (0 : Int))))], []⟩] [(17, (AV.list 1 eI64 (0 : Int) ([(-2 : Int)] : List (Int)) .exact))] (⟨[(1, (.int .i64 a_root)), (2, (.ptr 2 0)), (5, (Q161 x3)), (6, (.vsl 21 x4.length))], [(2, .row 26 (Q158 a_g)), (13, .tok 1 3 x3.length), (21, .arr 1 3 x4.length (fun i => eI64 (x4.getD i (0 : Int))))], []⟩ : St) [(AVle (.slice 1 1 (fun i => ([[(.int .i64 (-2 : Int))]] : List (List AV)).getD i []) .exact) (AV.list 1 eI64 (0 : Int) ([(-2 : Int)] : List (Int)) .exact)), (Spec Try.prog 31 [(AV.list 1 eI64 (0 : Int) ([(-2 : Int)] : List (Int)) .none), (.int .i64 (a_g.Succ.length : Int))] [] (.vsl 20000 x4.length) [(20000, .arr 1 3 x4.length (fun i => eI64 (x4.getD i (0 : Int))))])] hn mix (no_hand hΓ) (by kernel_rfl) ⟨(av_lit rfl (fun i hi => map_get (e := eI64) (d := (0 : Int)) ([(-2 : Int)] : List (Int)) i hi)), (ok_slices_Repeat_int_int ([(-2 : Int)] : List (Int)) (a_g.Succ.length : Int) x4 hx4), trivial⟩ ?_
      obtain ⟨hc5, h⟩ := chk_some h
      refine rgs [] [] (⟨[(2, (.ptr 2 0)), (5, (Q161 x3)), (6, (.vsl 21 x4.length))], [(2, .row 26 (Q158 a_g)), (13, .tok 1 3 x3.length), (21, .arr 1 3 x4.length (fun i_ => AV.eraseAll Q179 ((putF (fun i => eI64 (x4.getD i (0 : Int))) (a_root).toNat 0 [(.int .i64 (-1 : Int))]) i_)))], []⟩ : St) [(InB a_root x4.length), (x4.length = x4.length)] hn mix (no_hand hΓ) (by kernel_rfl) ⟨hc5, rfl, trivial⟩ ?_
      refine awp_le (Le.trans (le_of (st' := (⟨[(2, (.ptr 2 0)), (5, (Q161 x3)), (6, (.vsl 21 x4.length))], [(2, .row 26 (Q158 a_g)), (13, .tok 1 3 x3.length), (21, .arr 1 3 x4.length (fun i => eI64 ((Q163 x4 a_root).getD i (0 : Int))))], []⟩ : St)) (TmpsLe.refl _) (.same (.same (.arr (leL_of_eq (List.length_set ..).symm (fun k_ hk_ => (congrArg (AV.eraseAll Q179) ((putF_set (fun _ _ => rfl) (inB_lt0 hc5) rfl) k_ hk_)).trans rfl)) .nil)))) (le_eq (congrArg (fun k_ : Nat => (⟨[(2, (.ptr 2 0)), (5, (Q161 x3)), (6, (.vsl 21 k_))], [(2, .row 26 (Q158 a_g)), (13, .tok 1 3 x3.length), (21, .arr 1 3 k_ (fun i => eI64 ((Q163 x4 a_root).getD i (0 : Int))))], []⟩ : St)) (show x4.length = (Q163 x4 a_root).length from (List.length_set ..).symm)))) ?_
      refine awp_seq ?_
      refine awp_label ?_
      refine then_normal ?_
      refine rgs0 (⟨[(2, (.ptr 2 0)), (5, (Q161 x3)), (6, (.vsl 21 (Q163 x4 a_root).length)), (7, (.bool false))], [(2, .row 26 (Q158 a_g)), (13, .tok 1 3 x3.length), (21, .arr 1 3 ((Q163 x4 a_root).length) (fun i => eI64 ((Q163 x4 a_root).getD i (0 : Int))))], []⟩ : St) hn mix (no_hand hΓ) (by kernel_rfl) ?_
      refine awp_seq ?_
      obtain ⟨hc6, h⟩ := chk_some h
      refine rgs [] [(26, (Q171 x3))] (⟨[(2, (.ptr 2 0)), (5, (Q161 x3)), (6, (.vsl 21 (Q163 x4 a_root).length)), (7, (.bool false)), (26, (Q171 x3)), (27, (Q175 x3)), (28, (.int .i64 (0 : Int)))], [(2, .row 26 (Q158 a_g)), (13, .tok 1 3 x3.length), (21, .arr 1 3 ((Q163 x4 a_root).length) (fun i => eI64 ((Q163 x4 a_root).getD i (0 : Int))))], []⟩ : St) [(0 ≤ (1 : Int) ∧ (1 : Int) ≤ (x3.length : Int)), (AVle (.slice 1 (x3.length - ((1 : Int)).toNat) (fun i => eI64 (x3.getD (((1 : Int)).toNat + i) (0 : Int))) .none) (Q171 x3))] hn mix (no_hand hΓ) (by kernel_rfl) ⟨hc6, av_drop, trivial⟩ ?_
      refine awp_block ?_
      refine awp_le (st' := (fun ((b7, i8, l9) : (Bool × Int × List (Int))) => (⟨[(2, (.ptr 2 0)), (5, (Q161 x3)), (6, (.vsl 21 l9.length)), (7, (.bool b7)), (26, (Q171 x3)), (27, (Q175 x3)), (28, (.int .i64 i8))], (Q176 a_g x3 l9), []⟩ : St)) (false, (0 : Int), (Q163 x4 a_root))) (Le.refl _ _) ?_
      obtain ⟨x22, hx22, h⟩ := bind_some h
      refine awp_loop (fun ((b7, i8, l9) : (Bool × Int × List (Int))) => (⟨[(2, (.ptr 2 0)), (5, (Q161 x3)), (6, (.vsl 21 l9.length)), (7, (.bool b7)), (26, (Q171 x3)), (27, (Q175 x3)), (28, (.int .i64 i8))], (Q176 a_g x3 l9), []⟩ : St)) _ (fun ((b10, l11) : (Bool × List (Int))) (e : Exit) (st : St) => e = (.exit 0) ∧ Le Γ st (⟨[(2, (.ptr 2 0)), (5, (Q161 x3)), (6, (.vsl 21 l11.length)), (7, (.bool b10))], [(2, .row 26 (Q158 a_g)), (13, .tok 1 3 x3.length), (21, .arr 1 3 l11.length (Q167 l11))], []⟩ : St)) ?_ hx22 ?_
      · rintro ⟨b7, i8, l9⟩ y h
        unfold m_dom_Tree_L1 at h
        refine rgs0 (⟨[(2, (.ptr 2 0)), (5, (Q161 x3)), (6, (.vsl 21 l9.length)), (7, (.bool b7)), (26, (Q171 x3)), (27, (Q175 x3)), (28, (.int .i64 i8)), (29, (.bool (decide ((i8 : Int) < ((Q160 x3).length : Int)))))], (Q176 a_g x3 l9), []⟩ : St) hn mix (no_hand hΓ) (by kernel_rfl) ?_
        refine awp_seq ?_
        refine awp_cond (decide ((i8 : Int) < ((Q160 x3).length : Int))) (by kernel_rfl) (fun hb => ?_) (fun hb => ?_)
        · replace h := cond_t hb h
          clear hb
          refine awp_skip ?_
          refine then_normal ?_
          refine awp_seq ?_
          obtain ⟨x20, hx20, h⟩ := bind_some h
          refine awp_join (fun ((b12, l13) : (Bool × List (Int))) (e : Exit) (st : St) => e = .normal ∧ Le Γ st (⟨[(2, (.ptr 2 0)), (5, (Q161 x3)), (6, (.vsl 21 l13.length)), (7, (.bool b12)), (26, (Q171 x3)), (27, (Q175 x3)), (28, (.int .i64 i8))], [(2, .row 26 (Q158 a_g)), (13, .tok 1 3 x3.length), (21, .arr 1 3 l13.length (fun i => eI64 (l13.getD i (0 : Int))))], []⟩ : St)) hx20 ?_ ?_
          · clear h hx20
            intro y h
            refine awp_block ?_
            obtain ⟨hc14, h⟩ := chk_some h
            refine rgs [] [] (⟨[(2, (.ptr 2 0)), (5, (Q161 x3)), (6, (.vsl 21 l9.length)), (7, (.bool b7)), (9, (.int .i64 (Q173 x3 i8))), (26, (Q171 x3)), (27, (Q175 x3)), (28, (.int .i64 i8))], (Q176 a_g x3 l9), []⟩ : St) [(InB i8 (Q160 x3).length)] hn mix (no_hand hΓ) (by kernel_rfl) ⟨hc14, trivial⟩ ?_
            obtain ⟨hc15, h⟩ := chk_some h
            obtain ⟨x16, hx16, h⟩ := bind_some h
            obtain ⟨hc17, h⟩ := chk_some h
            refine rgs [⟨[(21, 34000)], [], (.int .i64 x16.1), [(34000, .arr 1 3 x16.2.length (Q165 x16))], []⟩] [] (⟨[(2, (.ptr 2 0)), (5, (Q161 x3)), (6, (.vsl 21 l9.length)), (7, (.bool b7)), (9, (.int .i64 (Q173 x3 i8))), (10, (.int .i64 x16.1)), (26, (Q171 x3)), (27, (Q175 x3)), (28, (.int .i64 i8))], [(2, .row 26 (Q158 a_g)), (13, .tok 1 3 x3.length), (21, .arr 1 3 x16.2.length (Q165 x16))], []⟩ : St) [(InB (Q173 x3 i8) a_g.Pred.length), (Spec Try.prog 32 [(.vsl 34000 l9.length), (AV.list 1 eI64 (0 : Int) (a_g.Pred.getD ((Q173 x3 i8)).toNat []) .none)] [(34000, .arr 1 3 l9.length (fun i => eI64 (l9.getD i (0 : Int))))] (.int .i64 x16.1) [(34000, .arr 1 3 x16.2.length (Q165 x16))])] hn mix (no_hand hΓ) (by kernel_rfl) ⟨hc15, (ok_dom_meetAll_v2 l9 (a_g.Pred.getD ((Q173 x3 i8)).toNat []) x16 hx16), trivial⟩ ?_
            refine awp_le (le_eq (congrArg (fun k_ : Nat => (⟨[(2, (.ptr 2 0)), (5, (Q161 x3)), (6, (.vsl 21 k_)), (7, (.bool b7)), (9, (.int .i64 (Q173 x3 i8))), (10, (.int .i64 x16.1)), (26, (Q171 x3)), (27, (Q175 x3)), (28, (.int .i64 i8))], [(2, .row 26 (Q158 a_g)), (13, .tok 1 3 x3.length), (21, .arr 1 3 x16.2.length (Q165 x16))], []⟩ : St)) (show l9.length = x16.2.length from hc17))) ?_
            obtain ⟨hc18, h⟩ := chk_some h
            refine rgs [] [] (⟨[(2, (.ptr 2 0)), (5, (Q161 x3)), (6, (.vsl 21 x16.2.length)), (7, (.bool b7)), (9, (.int .i64 (Q173 x3 i8))), (10, (.int .i64 x16.1)), (26, (Q171 x3)), (27, (Q175 x3)), (28, (.int .i64 i8)), (44, (.bool ((x16.1 : Int) != (x16.2.getD ((Q173 x3 i8)).toNat (0 : Int)))))], [(2, .row 26 (Q158 a_g)), (13, .tok 1 3 x3.length), (21, .arr 1 3 x16.2.length (Q165 x16))], []⟩ : St) [(InB (Q173 x3 i8) x16.2.length), (x16.2.length = x16.2.length)] hn mix (no_hand hΓ) (by kernel_rfl) ⟨hc18, rfl, trivial⟩ ?_
            refine awp_cond ((x16.1 : Int) != (x16.2.getD ((Q173 x3 i8)).toNat (0 : Int))) (by kernel_rfl) (fun hb => ?_) (fun hb => ?_)
            · replace h := cond_t hb h
              clear hb
              obtain ⟨hc19, h⟩ := chk_some h
              refine rg [] [] (⟨[(2, (.ptr 2 0)), (5, (Q161 x3)), (6, (.vsl 21 x16.2.length)), (7, (.bool true)), (26, (Q171 x3)), (27, (Q175 x3)), (28, (.int .i64 i8))], [(2, .row 26 (Q158 a_g)), (13, .tok 1 3 x3.length), (21, .arr 1 3 x16.2.length (fun i_ => AV.eraseAll Q179 ((putF (Q165 x16) ((Q173 x3 i8)).toNat 0 [(.int .i64 x16.1)]) i_)))], []⟩ : St) [(InB (Q173 x3 i8) x16.2.length), (x16.2.length = x16.2.length)] hn mix (no_hand hΓ) (by kernel_rfl) ⟨hc19, rfl, trivial⟩ ?_
              refine block_normal ?_
              obtain rfl := Option.some.inj h
              exact ⟨rfl, Le.trans (Le.trans (le_of (st' := (⟨[(2, (.ptr 2 0)), (5, (Q161 x3)), (6, (.vsl 21 x16.2.length)), (7, (.bool true)), (26, (Q171 x3)), (27, (Q175 x3)), (28, (.int .i64 i8))], [(2, .row 26 (Q158 a_g)), (13, .tok 1 3 x3.length), (21, .arr 1 3 x16.2.length (fun i => eI64 ((x16.2.set ((Q173 x3 i8)).toNat x16.1).getD i (0 : Int))))], []⟩ : St)) (TmpsLe.refl _) (.same (.same (.arr (leL_of_eq (List.length_set ..).symm (fun k_ hk_ => (congrArg (AV.eraseAll Q179) ((putF_set (fun _ _ => rfl) (inB_lt0 hc19) rfl) k_ hk_)).trans rfl)) .nil)))) (le_eq (congrArg (fun k_ : Nat => (⟨[(2, (.ptr 2 0)), (5, (Q161 x3)), (6, (.vsl 21 k_)), (7, (.bool true)), (26, (Q171 x3)), (27, (Q175 x3)), (28, (.int .i64 i8))], [(2, .row 26 (Q158 a_g)), (13, .tok 1 3 x3.length), (21, .arr 1 3 k_ (fun i => eI64 ((x16.2.set ((Q173 x3 i8)).toNat x16.1).getD i (0 : Int))))], []⟩ : St)) (show x16.2.length = (x16.2.set ((Q173 x3 i8)).toNat x16.1).length from (List.length_set ..).symm)))) (Le.refl _ _)⟩
            · replace h := cond_f hb h
              clear hb
              refine awp_skip ?_
              refine block_normal ?_
              obtain rfl := Option.some.inj h
              exact ⟨rfl, le_restrict_eq [2, 5, 6, 7, 26, 27, 28] [2, 13, 21] (by kernel_rfl) (no_hand hΓ)⟩
          · clear hx20
            rcases x20 with ⟨b12, l13⟩
            rintro e st' ⟨rfl, hl21⟩
            refine then_normal ?_
            refine awp_le hl21 ?_
            refine rg0 (⟨[(2, (.ptr 2 0)), (5, (Q161 x3)), (6, (.vsl 21 l13.length)), (7, (.bool b12)), (26, (Q171 x3)), (27, (Q175 x3)), (28, (.int .i64 (w64 (i8 + (1 : Int)))))], [(2, .row 26 (Q158 a_g)), (13, .tok 1 3 x3.length), (21, .arr 1 3 l13.length (fun i => eI64 (l13.getD i (0 : Int))))], []⟩ : St) hn mix (no_hand hΓ) (by kernel_rfl) ?_
            obtain rfl := Option.some.inj h
            exact ⟨rfl, Le.refl _ _⟩
        · replace h := cond_f hb h
          clear hb
          refine awp_exit ?_
          refine then_exit ?_
          obtain rfl := Option.some.inj h
          exact ⟨(by intro hh; cases hh), rfl, le_restrict_eq [2, 5, 6, 7] [2, 13, 21] (by kernel_rfl) (no_hand hΓ)⟩
      · clear hx22
        rcases x22 with ⟨b10, l11⟩
        rintro e st' ⟨rfl, hl23⟩
        refine block_here ?_
        refine then_normal ?_
        refine awp_le hl23 ?_
        refine awp_seq ?_
        refine rgs0 (⟨[(2, (.ptr 2 0)), (5, (Q161 x3)), (6, (.vsl 21 l11.length)), (50, (.bool b10))], [(2, .row 26 (Q158 a_g)), (13, .tok 1 3 x3.length), (21, .arr 1 3 l11.length (Q167 l11))], []⟩ : St) hn mix (no_hand hΓ) (by kernel_rfl) ?_
        refine awp_cond b10 (by kernel_rfl) (fun hb => ?_) (fun hb => ?_)
        · replace h := cond_t hb h
          clear hb
          refine awp_goto ?_
          refine then_goto ?_
          obtain rfl := Option.some.inj h
          exact ⟨rfl, rfl, le_restrict_eq [2, 5, 6] [2, 13, 21] (by kernel_rfl) (no_hand hΓ)⟩
        · replace h := cond_f hb h
          clear hb
          refine awp_skip ?_
          refine then_normal ?_
          refine rgs0 (⟨[(4, (.vsl 21 l11.length))], [(21, .arr 1 3 l11.length (Q167 l11))], []⟩ : St) hn mix (no_hand hΓ) (by kernel_rfl) ?_
          refine awp_le (Le.trans (le_freeze (nm := 21) (sz := 1) (n := l11.length) (e := 3) (f := (Q167 l11)) (g := (Q167 l11)) rfl ⟨rfl, trivial⟩ (fun _ _ => rfl) (by rw [hΓ]; rfl)) (le_eq (st' := (⟨[(4, (AV.list 1 eI64 (0 : Int) l11 (.own 21)))], [(21, .tok 1 3 l11.length)], []⟩ : St)) (by kernel_rfl))) ?_
          refine awp_ret ?_
          obtain rfl := Option.some.inj h
          exact ⟨(by intro l hh; cases hh), rfl, ⟨.inl rfl, [(21, 20000)], by kernel_rfl⟩⟩
  · clear h hx42
    rintro ⟨l1, l2⟩ y rest hf h
    obtain rfl := Option.some.inj hf
    clear hf
    unfold m_dom_Tree_F3 at h
    refine awp_seq ?_
    refine awp_skip ?_
    refine then_normal ?_
    refine rgs0 (⟨[(2, (.ptr 2 0)), (5, (Q162 l1)), (6, (.vsl 21 l2.length)), (7, (.bool false))], (Q178 a_g l1 l2), []⟩ : St) hn mix (no_hand hΓ) (by kernel_rfl) ?_
    refine awp_seq ?_
    obtain ⟨hc24, h⟩ := chk_some h
    refine rgs [] [(26, (Q170 l1))] (⟨[(2, (.ptr 2 0)), (5, (Q162 l1)), (6, (.vsl 21 l2.length)), (7, (.bool false)), (26, (Q170 l1)), (27, (Q174 l1)), (28, (.int .i64 (0 : Int)))], (Q178 a_g l1 l2), []⟩ : St) [(0 ≤ (1 : Int) ∧ (1 : Int) ≤ (l1.length : Int)), (AVle (.slice 1 (l1.length - ((1 : Int)).toNat) (fun i => eI64 (l1.getD (((1 : Int)).toNat + i) (0 : Int))) .none) (Q170 l1))] hn mix (no_hand hΓ) (by kernel_rfl) ⟨hc24, av_drop, trivial⟩ ?_
    refine awp_block ?_
    refine awp_le (st' := (fun ((b25, i26, l27) : (Bool × Int × List (Int))) => (⟨[(2, (.ptr 2 0)), (5, (Q162 l1)), (6, (.vsl 21 l27.length)), (7, (.bool b25)), (26, (Q170 l1)), (27, (Q174 l1)), (28, (.int .i64 i26))], (Q177 a_g l1 l27), []⟩ : St)) (false, (0 : Int), l2)) (Le.refl _ _) ?_
    obtain ⟨x40, hx40, h⟩ := bind_some h
    refine awp_loop (fun ((b25, i26, l27) : (Bool × Int × List (Int))) => (⟨[(2, (.ptr 2 0)), (5, (Q162 l1)), (6, (.vsl 21 l27.length)), (7, (.bool b25)), (26, (Q170 l1)), (27, (Q174 l1)), (28, (.int .i64 i26))], (Q177 a_g l1 l27), []⟩ : St)) _ (fun ((b28, l29) : (Bool × List (Int))) (e : Exit) (st : St) => e = (.exit 0) ∧ Le Γ st (⟨[(2, (.ptr 2 0)), (5, (Q162 l1)), (6, (.vsl 21 l29.length)), (7, (.bool b28))], [(2, .row 26 (Q158 a_g)), (13, .tok 1 3 l1.length), (21, .arr 1 3 l29.length (Q169 l29))], []⟩ : St)) ?_ hx40 ?_
    · rintro ⟨b25, i26, l27⟩ y h
      unfold m_dom_Tree_L2 at h
      refine rgs0 (⟨[(2, (.ptr 2 0)), (5, (Q162 l1)), (6, (.vsl 21 l27.length)), (7, (.bool b25)), (26, (Q170 l1)), (27, (Q174 l1)), (28, (.int .i64 i26)), (29, (.bool (decide ((i26 : Int) < ((Q159 l1).length : Int)))))], (Q177 a_g l1 l27), []⟩ : St) hn mix (no_hand hΓ) (by kernel_rfl) ?_
      refine awp_seq ?_
      refine awp_cond (decide ((i26 : Int) < ((Q159 l1).length : Int))) (by kernel_rfl) (fun hb => ?_) (fun hb => ?_)
      · replace h := cond_t hb h
        clear hb
        refine awp_skip ?_
        refine then_normal ?_
        refine awp_seq ?_
        obtain ⟨x38, hx38, h⟩ := bind_some h
        refine awp_join (fun ((b30, l31) : (Bool × List (Int))) (e : Exit) (st : St) => e = .normal ∧ Le Γ st (⟨[(2, (.ptr 2 0)), (5, (Q162 l1)), (6, (.vsl 21 l31.length)), (7, (.bool b30)), (26, (Q170 l1)), (27, (Q174 l1)), (28, (.int .i64 i26))], [(2, .row 26 (Q158 a_g)), (13, .tok 1 3 l1.length), (21, .arr 1 3 l31.length (fun i => eI64 (l31.getD i (0 : Int))))], []⟩ : St)) hx38 ?_ ?_
        · clear h hx38
          intro y h
          refine awp_block ?_
          obtain ⟨hc32, h⟩ := chk_some h
          refine rgs [] [] (⟨[(2, (.ptr 2 0)), (5, (Q162 l1)), (6, (.vsl 21 l27.length)), (7, (.bool b25)), (9, (.int .i64 (Q172 l1 i26))), (26, (Q170 l1)), (27, (Q174 l1)), (28, (.int .i64 i26))], (Q177 a_g l1 l27), []⟩ : St) [(InB i26 (Q159 l1).length)] hn mix (no_hand hΓ) (by kernel_rfl) ⟨hc32, trivial⟩ ?_
          obtain ⟨hc33, h⟩ := chk_some h
          obtain ⟨x34, hx34, h⟩ := bind_some h
          obtain ⟨hc35, h⟩ := chk_some h
          refine rgs [⟨[(21, 34000)], [], (.int .i64 x34.1), [(34000, .arr 1 3 x34.2.length (Q166 x34))], []⟩] [] (⟨[(2, (.ptr 2 0)), (5, (Q162 l1)), (6, (.vsl 21 l27.length)), (7, (.bool b25)), (9, (.int .i64 (Q172 l1 i26))), (10, (.int .i64 x34.1)), (26, (Q170 l1)), (27, (Q174 l1)), (28, (.int .i64 i26))], [(2, .row 26 (Q158 a_g)), (13, .tok 1 3 l1.length), (21, .arr 1 3 x34.2.length (Q166 x34))], []⟩ : St) [(InB (Q172 l1 i26) a_g.Pred.length), (Spec Try.prog 32 [(.vsl 34000 l27.length), (AV.list 1 eI64 (0 : Int) (a_g.Pred.getD ((Q172 l1 i26)).toNat []) .none)] [(34000, .arr 1 3 l27.length (Q168 l27))] (.int .i64 x34.1) [(34000, .arr 1 3 x34.2.length (Q166 x34))])] hn mix (no_hand hΓ) (by kernel_rfl) ⟨hc33, (ok_dom_meetAll_v2 l27 (a_g.Pred.getD ((Q172 l1 i26)).toNat []) x34 hx34), trivial⟩ ?_
          refine awp_le (le_eq (congrArg (fun k_ : Nat => (⟨[(2, (.ptr 2 0)), (5, (Q162 l1)), (6, (.vsl 21 k_)), (7, (.bool b25)), (9, (.int .i64 (Q172 l1 i26))), (10, (.int .i64 x34.1)), (26, (Q170 l1)), (27, (Q174 l1)), (28, (.int .i64 i26))], [(2, .row 26 (Q158 a_g)), (13, .tok 1 3 l1.length), (21, .arr 1 3 x34.2.length (Q166 x34))], []⟩ : St)) (show l27.length = x34.2.length from hc35))) ?_
          obtain ⟨hc36, h⟩ := chk_some h
          refine rgs [] [] (⟨[(2, (.ptr 2 0)), (5, (Q162 l1)), (6, (.vsl 21 x34.2.length)), (7, (.bool b25)), (9, (.int .i64 (Q172 l1 i26))), (10, (.int .i64 x34.1)), (26, (Q170 l1)), (27, (Q174 l1)), (28, (.int .i64 i26)), (44, (.bool ((x34.1 : Int) != (x34.2.getD ((Q172 l1 i26)).toNat (0 : Int)))))], [(2, .row 26 (Q158 a_g)), (13, .tok 1 3 l1.length), (21, .arr 1 3 x34.2.length (Q166 x34))], []⟩ : St) [(InB (Q172 l1 i26) x34.2.length), (x34.2.length = x34.2.length)] hn mix (no_hand hΓ) (by kernel_rfl) ⟨hc36, rfl, trivial⟩ ?_
          refine awp_cond ((x34.1 : Int) != (x34.2.getD ((Q172 l1 i26)).toNat (0 : Int))) (by kernel_rfl) (fun hb => ?_) (fun hb => ?_)
          · replace h := cond_t hb h
            clear hb
            obtain ⟨hc37, h⟩ := chk_some h
            refine rg [] [] (⟨[(2, (.ptr 2 0)), (5, (Q162 l1)), (6, (.vsl 21 x34.2.length)), (7, (.bool true)), (26, (Q170 l1)), (27, (Q174 l1)), (28, (.int .i64 i26))], [(2, .row 26 (Q158 a_g)), (13, .tok 1 3 l1.length), (21, .arr 1 3 x34.2.length (fun i_ => AV.eraseAll Q179 ((putF (Q166 x34) ((Q172 l1 i26)).toNat 0 [(.int .i64 x34.1)]) i_)))], []⟩ : St) [(InB (Q172 l1 i26) x34.2.length), (x34.2.length = x34.2.length)] hn mix (no_hand hΓ) (by kernel_rfl) ⟨hc37, rfl, trivial⟩ ?_
            refine block_normal ?_
            obtain rfl := Option.some.inj h
            exact ⟨rfl, Le.trans (Le.trans (le_of (st' := (⟨[(2, (.ptr 2 0)), (5, (Q162 l1)), (6, (.vsl 21 x34.2.length)), (7, (.bool true)), (26, (Q170 l1)), (27, (Q174 l1)), (28, (.int .i64 i26))], [(2, .row 26 (Q158 a_g)), (13, .tok 1 3 l1.length), (21, .arr 1 3 x34.2.length (fun i => eI64 ((x34.2.set ((Q172 l1 i26)).toNat x34.1).getD i (0 : Int))))], []⟩ : St)) (TmpsLe.refl _) (.same (.same (.arr (leL_of_eq (List.length_set ..).symm (fun k_ hk_ => (congrArg (AV.eraseAll Q179) ((putF_set (fun _ _ => rfl) (inB_lt0 hc37) rfl) k_ hk_)).trans rfl)) .nil)))) (le_eq (congrArg (fun k_ : Nat => (⟨[(2, (.ptr 2 0)), (5, (Q162 l1)), (6, (.vsl 21 k_)), (7, (.bool true)), (26, (Q170 l1)), (27, (Q174 l1)), (28, (.int .i64 i26))], [(2, .row 26 (Q158 a_g)), (13, .tok 1 3 l1.length), (21, .arr 1 3 k_ (fun i => eI64 ((x34.2.set ((Q172 l1 i26)).toNat x34.1).getD i (0 : Int))))], []⟩ : St)) (show x34.2.length = (x34.2.set ((Q172 l1 i26)).toNat x34.1).length from (List.length_set ..).symm)))) (Le.refl _ _)⟩
          · replace h := cond_f hb h
            clear hb
            refine awp_skip ?_
            refine block_normal ?_
            obtain rfl := Option.some.inj h
            exact ⟨rfl, le_restrict_eq [2, 5, 6, 7, 26, 27, 28] [2, 13, 21] (by kernel_rfl) (no_hand hΓ)⟩
        · clear hx38
          rcases x38 with ⟨b30, l31⟩
          rintro e st' ⟨rfl, hl39⟩
          refine then_normal ?_
          refine awp_le hl39 ?_
          refine rg0 (⟨[(2, (.ptr 2 0)), (5, (Q162 l1)), (6, (.vsl 21 l31.length)), (7, (.bool b30)), (26, (Q170 l1)), (27, (Q174 l1)), (28, (.int .i64 (w64 (i26 + (1 : Int)))))], [(2, .row 26 (Q158 a_g)), (13, .tok 1 3 l1.length), (21, .arr 1 3 l31.length (fun i => eI64 (l31.getD i (0 : Int))))], []⟩ : St) hn mix (no_hand hΓ) (by kernel_rfl) ?_
          obtain rfl := Option.some.inj h
          exact ⟨rfl, Le.refl _ _⟩
      · replace h := cond_f hb h
        clear hb
        refine awp_exit ?_
        refine then_exit ?_
        obtain rfl := Option.some.inj h
        exact ⟨(by intro hh; cases hh), rfl, le_restrict_eq [2, 5, 6, 7] [2, 13, 21] (by kernel_rfl) (no_hand hΓ)⟩
    · clear hx40
      rcases x40 with ⟨b28, l29⟩
      rintro e st' ⟨rfl, hl41⟩
      refine block_here ?_
      refine then_normal ?_
      refine awp_le hl41 ?_
      refine awp_seq ?_
      refine rgs0 (⟨[(2, (.ptr 2 0)), (5, (Q162 l1)), (6, (.vsl 21 l29.length)), (50, (.bool b28))], [(2, .row 26 (Q158 a_g)), (13, .tok 1 3 l1.length), (21, .arr 1 3 l29.length (Q169 l29))], []⟩ : St) hn mix (no_hand hΓ) (by kernel_rfl) ?_
      refine awp_cond b28 (by kernel_rfl) (fun hb => ?_) (fun hb => ?_)
      · replace h := cond_t hb h
        clear hb
        refine awp_goto ?_
        refine then_goto ?_
        obtain rfl := Option.some.inj h
        exact ⟨rfl, rfl, le_restrict_eq [2, 5, 6] [2, 13, 21] (by kernel_rfl) (no_hand hΓ)⟩
      · replace h := cond_f hb h
        clear hb
        refine awp_skip ?_
        refine then_normal ?_
        refine rgs0 (⟨[(4, (.vsl 21 l29.length))], [(21, .arr 1 3 l29.length (Q169 l29))], []⟩ : St) hn mix (no_hand hΓ) (by kernel_rfl) ?_
        refine awp_le (Le.trans (le_freeze (nm := 21) (sz := 1) (n := l29.length) (e := 3) (f := (Q169 l29)) (g := (Q169 l29)) rfl ⟨rfl, trivial⟩ (fun _ _ => rfl) (by rw [hΓ]; rfl)) (le_eq (st' := (⟨[(4, (AV.list 1 eI64 (0 : Int) l29 (.own 21)))], [(21, .tok 1 3 l29.length)], []⟩ : St)) (by kernel_rfl))) ?_
        refine awp_ret ?_
        obtain rfl := Option.some.inj h
        exact ⟨(by intro l hh; cases hh), rfl, ⟨.inl rfl, [(21, 20000)], by kernel_rfl⟩⟩
  · clear hx42
    rintro e st' ⟨rfl, hk⟩
    obtain rfl := Option.some.inj h
    exact hk

noncomputable def Q181 : AV := (AV.list 1 eI64 (0 : Int) ([] : List Int) .exact)
noncomputable def Q183 := (⟨[(2, (AV.list 1 eI64 (0 : Int) ([] : List Int) (.own 6002)))], [(6002, .tok 1 3 (([] : List Int).length))], []⟩ : St)
noncomputable def Q182 (a_g : TGraph) (x1 : (TGraph × Int)) : List (Nat × Own) := [(1, .row 26 [(AV.list 1 eLI64 [] a_g.Succ .none), (AV.list 1 eLI64 [] a_g.Pred .none)]), (3, .row 26 [(AV.list 1 eLI64 [] x1.1.Succ .none), (AV.list 1 eLI64 [] x1.1.Pred .none)])]
noncomputable def m_pdom_Tree (a_g : TGraph) : Option (List (Int)) :=
  ((m_pdom_Exit a_g).bind fun x1 => (bif ((x1.2 : Int) != (0 : Int)) then (some ([] : List Int)) else ((m_graph_Turned x1.1).bind fun x2 => ((m_dom_Tree x2 (a_g.Succ.length : Int)).bind fun x3 => (some x3)))))
theorem ok_pdom_Tree (a_g : TGraph) (r : List (Int)) (h : m_pdom_Tree a_g = some r) : Spec Try.prog 10 [(.agg (eTGraph a_g))] [] (AV.list 1 eI64 (0 : Int) r (.own 20000)) [(20000, .tok 1 3 r.length)] := by
  refine spec_of_awp (fn := Try.f10) Try.func10 rfl rfl (by kernel_rfl) (fun Γ hn hΓ => ?_)
  have hn : Γ.n = 18 := hn
  unfold m_pdom_Tree at h
  refine rgs [] [(2, Q181)] (⟨[(1, (.ptr 1 0))], [(1, .row 26 [(AV.list 1 eLI64 [] a_g.Succ .none), (AV.list 1 eLI64 [] a_g.Pred .none)])], []⟩ : St) [(AVle (.slice 0 0 (fun _ => []) .exact) Q181)] hn mix (no_hand hΓ) (by kernel_rfl) ⟨av_nil, trivial⟩ ?_
  obtain ⟨x1, hx1, h⟩ := bind_some h
  refine rgs [⟨[], [], (.tuple [(.agg (eTGraph x1.1)), (.int .i64 x1.2)]), [], []⟩] [] (⟨[(1, (.ptr 1 0)), (3, (.ptr 3 0)), (4, (.int .i64 x1.2))], (Q182 a_g x1), []⟩ : St) [(Spec Try.prog 11 [(.agg (eTGraph a_g))] [] (.tuple [(.agg (eTGraph x1.1)), (.int .i64 x1.2)]) [])] hn mix (no_hand hΓ) (by kernel_rfl) ⟨(ok_pdom_Exit a_g x1 hx1), trivial⟩ ?_
  refine awp_seq ?_
  refine rgs0 (⟨[(1, (.ptr 1 0)), (3, (.ptr 3 0)), (11, (.bool ((x1.2 : Int) != (0 : Int))))], (Q182 a_g x1), []⟩ : St) hn mix (no_hand hΓ) (by kernel_rfl) ?_
  refine awp_cond ((x1.2 : Int) != (0 : Int)) (by kernel_rfl) (fun hb => ?_) (fun hb => ?_)
  · replace h := cond_t hb h
    clear hb
    refine rgs [] [(2, Q181)] (⟨[(2, Q181)], [], []⟩ : St) [(AVle (.slice 0 0 (fun _ => []) .exact) Q181)] hn mix (no_hand hΓ) (by kernel_rfl) ⟨av_nil, trivial⟩ ?_
    refine awp_le (st' := Q183) (Le.trans (le_restrict_eq (st' := (⟨[(2, Q181)], [], []⟩ : St)) [2] [] (by kernel_rfl) (no_hand hΓ)) (Le.trans (le_tag (t := 2) (nm := 6002) (sz' := 1) (fun i => eI64 (([] : List Int).getD i (0 : Int))) 3 rfl rfl (.inl ⟨rfl, rfl⟩) (fun h_ => absurd h_ (by decide))) (le_restrict_eq (st' := Q183) [2] [6002] (by kernel_rfl) (no_hand hΓ)))) ?_
    refine awp_ret ?_
    refine then_ret ?_
    obtain rfl := Option.some.inj h
    exact ⟨.inl rfl, [(6002, 20000)], by kernel_rfl⟩
  · replace h := cond_f hb h
    clear hb
    refine awp_skip ?_
    refine then_normal ?_
    obtain ⟨x2, hx2, h⟩ := bind_some h
    obtain ⟨x3, hx3, h⟩ := bind_some h
    refine rgs [⟨[], [], (.agg (eTGraph x2)), [], []⟩, ⟨[], [(20000, 17)], (AV.list 1 eI64 (0 : Int) x3 (.own 20000)), [(20000, .tok 1 3 x3.length)], []⟩] [] (⟨[(2, (AV.list 1 eI64 (0 : Int) x3 (.own 17)))], [(17, .tok 1 3 x3.length)], []⟩ : St) [(Spec Try.prog 21 [(.agg (eTGraph x1.1))] [] (.agg (eTGraph x2)) []), (Spec Try.prog 20 [(.agg (eTGraph x2)), (.int .i64 (a_g.Succ.length : Int))] [] (AV.list 1 eI64 (0 : Int) x3 (.own 20000)) [(20000, .tok 1 3 x3.length)])] hn mix (no_hand hΓ) (by kernel_rfl) ⟨(ok_graph_Turned x1.1 x2 hx2), (ok_dom_Tree x2 (a_g.Succ.length : Int) x3 hx3), trivial⟩ ?_
    refine awp_ret ?_
    obtain rfl := Option.some.inj h
    exact ⟨.inl rfl, [(17, 20000)], by kernel_rfl⟩

noncomputable def m_lockstepref02_Ints_L1 (a_a : List (Int)) (a_b : List (Int)) : Int → Option (LR Int (Unit ⊕ Bool)) :=
  fun (i1 : Int) => (bif (decide ((i1 : Int) < (a_a.length : Int))) then (chk (InB i1 a_a.length) (chk (InB i1 a_b.length) (bif (((a_a.getD (i1).toNat (0 : Int)) : Int) != (a_b.getD (i1).toNat (0 : Int))) then (some (.done (.inr false))) else (some (.next (w64 (i1 + (1 : Int)))))))) else (some (.done (.inl ()))))
noncomputable def Q184 (a_a : List (Int)) : AV := (AV.list 1 eI64 (0 : Int) a_a .none)
noncomputable def Q185 (a_b : List (Int)) : AV := (AV.list 1 eI64 (0 : Int) a_b .none)
noncomputable def m_lockstepref02_Ints (a_a : List (Int)) (a_b : List (Int)) : Option Bool :=
  (bif (((a_a.length : Int) : Int) != (a_b.length : Int)) then (some false) else ((loopO (S := Int) (X := (Unit ⊕ Bool)) (m_lockstepref02_Ints_L1 a_a a_b) (0 : Int)).bind (fun x4 => (match x4 with | (.inl _) => (some true) | (.inr r6) => (some r6)))))
theorem ok_lockstepref02_Ints (a_a : List (Int)) (a_b : List (Int)) (r : Bool) (h : m_lockstepref02_Ints a_a a_b = some r) : Spec Try.prog 16 [(AV.list 1 eI64 (0 : Int) a_a .none), (AV.list 1 eI64 (0 : Int) a_b .none)] [] (.bool r) [] := by
  refine spec_of_awp (fn := Try.f16) Try.func16 rfl rfl (by kernel_rfl) (fun Γ hn hΓ => ?_)
  have hn : Γ.n = 26 := hn
  unfold m_lockstepref02_Ints at h
  refine rgs0 (⟨[(0, (Q184 a_a)), (1, (Q185 a_b))], [], []⟩ : St) hn mix (no_hand hΓ) (by kernel_rfl) ?_
  refine awp_seq ?_
  refine rgs0 (⟨[(0, (Q184 a_a)), (1, (Q185 a_b)), (10, (.bool (((a_a.length : Int) : Int) != (a_b.length : Int))))], [], []⟩ : St) hn mix (no_hand hΓ) (by kernel_rfl) ?_
  refine awp_cond (((a_a.length : Int) : Int) != (a_b.length : Int)) (by kernel_rfl) (fun hb => ?_) (fun hb => ?_)
  · replace h := cond_t hb h
    clear hb
    refine rgs0 (⟨[(4, (.bool false))], [], []⟩ : St) hn mix (no_hand hΓ) (by kernel_rfl) ?_
    refine awp_ret ?_
    refine then_ret ?_
    obtain rfl := Option.some.inj h
    exact ⟨.inl rfl, [], by kernel_rfl⟩
  · replace h := cond_f hb h
    clear hb
    refine awp_skip ?_
    refine then_normal ?_
    refine awp_seq ?_
    refine rgs0 (⟨[(0, (Q184 a_a)), (1, (Q185 a_b)), (5, (.int .i64 (0 : Int)))], [], []⟩ : St) hn mix (no_hand hΓ) (by kernel_rfl) ?_
    refine awp_block ?_
    refine awp_le (st' := (fun (i1 : Int) => (⟨[(0, (Q184 a_a)), (1, (Q185 a_b)), (5, (.int .i64 i1))], [], []⟩ : St)) (0 : Int)) (Le.refl _ _) ?_
    obtain ⟨x4, hx4, h⟩ := bind_some h
    refine awp_loop (fun (i1 : Int) => (⟨[(0, (Q184 a_a)), (1, (Q185 a_b)), (5, (.int .i64 i1))], [], []⟩ : St)) _ (fun (x_ : (Unit ⊕ Bool)) (e : Exit) (st : St) => match x_ with | (.inl _) => e = (.exit 0) ∧ Le Γ st (⟨[], [], []⟩ : St) | (.inr r_) => e = .ret ∧ retK Try.prog Try.f16.results.toList [] (.bool r_) [] e st) ?_ hx4 ?_
    · intro i1 y h
      unfold m_lockstepref02_Ints_L1 at h
      refine awp_seq ?_
      refine rgs0 (⟨[(0, (Q184 a_a)), (1, (Q185 a_b)), (5, (.int .i64 i1)), (14, (.bool (decide ((i1 : Int) < (a_a.length : Int)))))], [], []⟩ : St) hn mix (no_hand hΓ) (by kernel_rfl) ?_
      refine awp_cond (decide ((i1 : Int) < (a_a.length : Int))) (by kernel_rfl) (fun hb => ?_) (fun hb => ?_)
      · replace h := cond_t hb h
        clear hb
        refine awp_skip ?_
        refine then_normal ?_
        refine awp_seq ?_
        refine awp_block ?_
        obtain ⟨hc2, h⟩ := chk_some h
        obtain ⟨hc3, h⟩ := chk_some h
        refine rgs [] [] (⟨[(0, (Q184 a_a)), (1, (Q185 a_b)), (5, (.int .i64 i1)), (25, (.bool (((a_a.getD (i1).toNat (0 : Int)) : Int) != (a_b.getD (i1).toNat (0 : Int)))))], [], []⟩ : St) [(InB i1 a_a.length), (InB i1 a_b.length)] hn mix (no_hand hΓ) (by kernel_rfl) ⟨hc2, hc3, trivial⟩ ?_
        refine awp_cond (((a_a.getD (i1).toNat (0 : Int)) : Int) != (a_b.getD (i1).toNat (0 : Int))) (by kernel_rfl) (fun hb => ?_) (fun hb => ?_)
        · replace h := cond_t hb h
          clear hb
          refine rgs0 (⟨[(4, (.bool false))], [], []⟩ : St) hn mix (no_hand hΓ) (by kernel_rfl) ?_
          refine awp_ret ?_
          refine block_ret ?_
          refine then_ret ?_
          obtain rfl := Option.some.inj h
          exact ⟨(by intro hh; cases hh), rfl, ⟨.inl rfl, [], by kernel_rfl⟩⟩
        · replace h := cond_f hb h
          clear hb
          refine awp_skip ?_
          refine block_normal ?_
          refine then_normal ?_
          refine rg0 (⟨[(0, (Q184 a_a)), (1, (Q185 a_b)), (5, (.int .i64 (w64 (i1 + (1 : Int)))))], [], []⟩ : St) hn mix (no_hand hΓ) (by kernel_rfl) ?_
          obtain rfl := Option.some.inj h
          exact ⟨rfl, Le.refl _ _⟩
      · replace h := cond_f hb h
        clear hb
        refine awp_exit ?_
        refine then_exit ?_
        obtain rfl := Option.some.inj h
        exact ⟨(by intro hh; cases hh), rfl, le_restrict_eq [] [] (by kernel_rfl) (no_hand hΓ)⟩
    · clear hx4
      rcases x4 with _ | r6
      · rintro e st' ⟨rfl, hl5⟩
        refine block_here ?_
        refine then_normal ?_
        refine awp_le hl5 ?_
        refine rgs0 (⟨[(4, (.bool true))], [], []⟩ : St) hn mix (no_hand hΓ) (by kernel_rfl) ?_
        refine awp_ret ?_
        obtain rfl := Option.some.inj h
        exact ⟨.inl rfl, [], by kernel_rfl⟩
      · rintro e st' ⟨rfl, hk⟩
        refine block_ret ?_
        refine then_ret ?_
        obtain rfl := Option.some.inj h
        exact hk

noncomputable def m_slices_Index_int_int_L1 (a_s : List (Int)) (a_v : Int) : Int → Option (LR Int (Unit ⊕ Int)) :=
  fun (i1 : Int) => (bif (decide ((i1 : Int) < (a_s.length : Int))) then (chk (InB i1 a_s.length) (bif ((a_v : Int) == (a_s.getD (i1).toNat (0 : Int))) then (some (.done (.inr i1))) else (some (.next (w64 (i1 + (1 : Int))))))) else (some (.done (.inl ()))))
noncomputable def Q187 (a_s : List (Int)) : AV := (.int .i64 (a_s.length : Int))
noncomputable def Q186 (a_s : List (Int)) : AV := (AV.list 1 eI64 (0 : Int) a_s .none)
noncomputable def m_slices_Index_int_int (a_s : List (Int)) (a_v : Int) : Option Int :=
  ((loopO (S := Int) (X := (Unit ⊕ Int)) (m_slices_Index_int_int_L1 a_s a_v) (0 : Int)).bind (fun x3 => (match x3 with | (.inl _) => (some (-1 : Int)) | (.inr r5) => (some r5))))
theorem ok_slices_Index_int_int (a_s : List (Int)) (a_v : Int) (r : Int) (h : m_slices_Index_int_int a_s a_v = some r) : Spec Try.prog 43 [(AV.list 1 eI64 (0 : Int) a_s .none), (.int .i64 a_v)] [] (.int .i64 r) [] := by
  refine spec_of_awp (fn := Try.f43) Try.func43 rfl rfl (by kernel_rfl) (fun Γ hn hΓ => ?_)
  have hn : Γ.n = 19 := hn
  unfold m_slices_Index_int_int at h
  refine rgs0 (⟨[(0, (Q186 a_s)), (1, (.int .i64 a_v))], [], []⟩ : St) hn mix (no_hand hΓ) (by kernel_rfl) ?_
  refine awp_seq ?_
  refine rgs0 (⟨[(0, (Q186 a_s)), (1, (.int .i64 a_v)), (7, (Q187 a_s)), (8, (.int .i64 (0 : Int)))], [], []⟩ : St) hn mix (no_hand hΓ) (by kernel_rfl) ?_
  refine awp_block ?_
  refine awp_le (st' := (fun (i1 : Int) => (⟨[(0, (Q186 a_s)), (1, (.int .i64 a_v)), (7, (Q187 a_s)), (8, (.int .i64 i1))], [], []⟩ : St)) (0 : Int)) (Le.refl _ _) ?_
  obtain ⟨x3, hx3, h⟩ := bind_some h
  refine awp_loop (fun (i1 : Int) => (⟨[(0, (Q186 a_s)), (1, (.int .i64 a_v)), (7, (Q187 a_s)), (8, (.int .i64 i1))], [], []⟩ : St)) _ (fun (x_ : (Unit ⊕ Int)) (e : Exit) (st : St) => match x_ with | (.inl _) => e = (.exit 0) ∧ Le Γ st (⟨[], [], []⟩ : St) | (.inr r_) => e = .ret ∧ retK Try.prog Try.f43.results.toList [] (.int .i64 r_) [] e st) ?_ hx3 ?_
  · intro i1 y h
    unfold m_slices_Index_int_int_L1 at h
    refine rgs0 (⟨[(0, (Q186 a_s)), (1, (.int .i64 a_v)), (7, (Q187 a_s)), (8, (.int .i64 i1)), (9, (.bool (decide ((i1 : Int) < (a_s.length : Int)))))], [], []⟩ : St) hn mix (no_hand hΓ) (by kernel_rfl) ?_
    refine awp_seq ?_
    refine awp_cond (decide ((i1 : Int) < (a_s.length : Int))) (by kernel_rfl) (fun hb => ?_) (fun hb => ?_)
    · replace h := cond_t hb h
      clear hb
      refine awp_skip ?_
      refine then_normal ?_
      refine awp_seq ?_
      refine awp_block ?_
      refine rgs0 (⟨[(0, (Q186 a_s)), (1, (.int .i64 a_v)), (5, (.int .i64 i1)), (7, (Q187 a_s)), (8, (.int .i64 i1))], [], []⟩ : St) hn mix (no_hand hΓ) (by kernel_rfl) ?_
      obtain ⟨hc2, h⟩ := chk_some h
      refine rgs [] [] (⟨[(0, (Q186 a_s)), (1, (.int .i64 a_v)), (5, (.int .i64 i1)), (7, (Q187 a_s)), (8, (.int .i64 i1)), (16, (.bool ((a_v : Int) == (a_s.getD (i1).toNat (0 : Int)))))], [], []⟩ : St) [(InB i1 a_s.length)] hn mix (no_hand hΓ) (by kernel_rfl) ⟨hc2, trivial⟩ ?_
      refine awp_cond ((a_v : Int) == (a_s.getD (i1).toNat (0 : Int))) (by kernel_rfl) (fun hb => ?_) (fun hb => ?_)
      · replace h := cond_t hb h
        clear hb
        refine rgs0 (⟨[(4, (.int .i64 i1))], [], []⟩ : St) hn mix (no_hand hΓ) (by kernel_rfl) ?_
        refine awp_ret ?_
        refine block_ret ?_
        refine then_ret ?_
        obtain rfl := Option.some.inj h
        exact ⟨(by intro hh; cases hh), rfl, ⟨.inl rfl, [], by kernel_rfl⟩⟩
      · replace h := cond_f hb h
        clear hb
        refine awp_skip ?_
        refine block_normal ?_
        refine then_normal ?_
        refine rg0 (⟨[(0, (Q186 a_s)), (1, (.int .i64 a_v)), (7, (Q187 a_s)), (8, (.int .i64 (w64 (i1 + (1 : Int)))))], [], []⟩ : St) hn mix (no_hand hΓ) (by kernel_rfl) ?_
        obtain rfl := Option.some.inj h
        exact ⟨rfl, Le.refl _ _⟩
    · replace h := cond_f hb h
      clear hb
      refine awp_exit ?_
      refine then_exit ?_
      obtain rfl := Option.some.inj h
      exact ⟨(by intro hh; cases hh), rfl, le_restrict_eq [] [] (by kernel_rfl) (no_hand hΓ)⟩
  · clear hx3
    rcases x3 with _ | r5
    · rintro e st' ⟨rfl, hl4⟩
      refine block_here ?_
      refine then_normal ?_
      refine awp_le hl4 ?_
      refine rgs0 (⟨[(4, (.int .i64 (-1 : Int)))], [], []⟩ : St) hn mix (no_hand hΓ) (by kernel_rfl) ?_
      refine awp_ret ?_
      obtain rfl := Option.some.inj h
      exact ⟨.inl rfl, [], by kernel_rfl⟩
    · rintro e st' ⟨rfl, hk⟩
      refine block_ret ?_
      refine then_ret ?_
      obtain rfl := Option.some.inj h
      exact hk

noncomputable def Q188 (a_at : Int) := ((decide (((0 : Int) : Int) ≤ a_at)) == true)
noncomputable def m_dom_isPlace (a_tree : List (Int)) (a_at : Int) : Option Bool :=
  (some (bif (decide (((0 : Int) : Int) ≤ a_at)) then (decide ((a_at : Int) < (a_tree.length : Int))) else false))
theorem ok_dom_isPlace (a_tree : List (Int)) (a_at : Int) (r : Bool) (h : m_dom_isPlace a_tree a_at = some r) : Spec Try.prog 45 [(AV.list 1 eI64 (0 : Int) a_tree .none), (.int .i64 a_at)] [] (.bool r) [] := by
  refine spec_of_awp (fn := Try.f45) Try.func45 rfl rfl (by kernel_rfl) (fun Γ hn hΓ => ?_)
  have hn : Γ.n = 13 := hn
  unfold m_dom_isPlace at h
  refine rgs0 (⟨[(0, (AV.list 1 eI64 (0 : Int) a_tree .none)), (1, (.int .i64 a_at))], [], []⟩ : St) hn mix (no_hand hΓ) (by kernel_rfl) ?_
  refine rgs [] [] (⟨[(4, (.bool (bif (decide (((0 : Int) : Int) ≤ a_at)) then (decide ((a_at : Int) < (a_tree.length : Int))) else false)))], [], []⟩ : St) [((Q188 a_at) = true → (Q188 a_at) = true), ((Q188 a_at) = true → (Q188 a_at) = true), ((Q188 a_at) = true → (Q188 a_at) = true), ((decide (((0 : Int) : Int) ≤ a_at)) = true → (Q188 a_at) = true)] hn mix (no_hand hΓ) (by kernel_rfl) ⟨(fun hg => hg), (fun hg => hg), (fun hg => hg), gT, trivial⟩ ?_
  refine awp_ret ?_
  obtain rfl := Option.some.inj h
  exact ⟨.inl rfl, [], by kernel_rfl⟩

noncomputable def m_dom_leads_L1 (a_tree : List (Int)) (a_from : Int) (a_root : Int) : (Int × List (Int)) → Option (LR (Int × List (Int)) (List (Int) ⊕ (Bool × List (Int)))) :=
  fun ((i1, l2) : (Int × List (Int))) => (bif ((i1 : Int) != a_root) then (chk (InB i1 l2.length) (bif (((l2.getD (i1).toNat (0 : Int)) : Int) != (0 : Int)) then (chk (InB i1 l2.length) (some (.done (.inr ((((l2.getD (i1).toNat (0 : Int)) : Int) != (w64 (a_from + (1 : Int)))), l2))))) else (chk (InB i1 a_tree.length) ((m_dom_isPlace a_tree (a_tree.getD (i1).toNat (0 : Int))).bind fun x7 => (bif (!x7) then (some (.done (.inr (false, l2)))) else (chk (InB i1 l2.length) (chk (InB i1 a_tree.length) (some (.next ((a_tree.getD (i1).toNat (0 : Int)), (l2.set (i1).toNat (w64 (a_from + (1 : Int)))))))))))))) else (some (.done (.inl l2))))
noncomputable def Q194 (a_from : Int) : AV := (.int .i64 (w64 (a_from + (1 : Int))))
noncomputable def Q193 (a_tree : List (Int)) : AV := (AV.list 1 eI64 (0 : Int) a_tree .none)
noncomputable def Q192 (l2 : List (Int)) (i1 : Int) (a_from : Int) := (l2.set (i1).toNat (w64 (a_from + (1 : Int))))
noncomputable def Q190 (l2 : List (Int)) : List (Nat × Own) := [(34001, .arr 1 3 l2.length (fun i => eI64 (l2.getD i (0 : Int))))]
noncomputable def Q191 (a_walks : List (Int)) : List (Nat × Own) := [(34001, .arr 1 3 a_walks.length (fun i => eI64 (a_walks.getD i (0 : Int))))]
noncomputable def Q189 (a_tree : List (Int)) (l2 : List (Int)) (a_root : Int) (a_from : Int) (i1 : Int) : List (Nat × AV) := [(0, (Q193 a_tree)), (1, (.vsl 34001 l2.length)), (3, (.int .i64 a_root)), (9, (Q194 a_from)), (10, (.int .i64 i1))]
noncomputable def m_dom_leads (a_tree : List (Int)) (a_walks : List (Int)) (a_from : Int) (a_root : Int) : Option (Bool × List (Int)) :=
  ((loopO (S := (Int × List (Int))) (X := (List (Int) ⊕ (Bool × List (Int)))) (m_dom_leads_L1 a_tree a_from a_root) (a_from, a_walks)).bind (fun x10 => (match x10 with | (.inl l3) => (some (true, l3)) | (.inr r12) => (some r12))))
theorem ok_dom_leads (a_tree : List (Int)) (a_walks : List (Int)) (a_from : Int) (a_root : Int) (r : (Bool × List (Int))) (h : m_dom_leads a_tree a_walks a_from a_root = some r) : Spec Try.prog 44 [(AV.list 1 eI64 (0 : Int) a_tree .none), (.vsl 34001 a_walks.length), (.int .i64 a_from), (.int .i64 a_root)] [(34001, .arr 1 3 a_walks.length (fun i => eI64 (a_walks.getD i (0 : Int))))] (.bool r.1) [(34001, .arr 1 3 r.2.length (fun i => eI64 (r.2.getD i (0 : Int))))] := by
  refine spec_of_awp (fn := Try.f44) Try.func44 rfl rfl (by kernel_rfl) (fun Γ hn hΓ => ?_)
  have hn : Γ.n = 43 := hn
  unfold m_dom_leads at h
  refine rgs0 (⟨[(0, (Q193 a_tree)), (1, (.vsl 34001 a_walks.length)), (2, (.int .i64 a_from)), (3, (.int .i64 a_root))], (Q191 a_walks), []⟩ : St) hn mix (hand_in hΓ rfl) (by kernel_rfl) ?_
  refine rgs0 (⟨[(0, (Q193 a_tree)), (1, (.vsl 34001 a_walks.length)), (2, (.int .i64 a_from)), (3, (.int .i64 a_root)), (9, (Q194 a_from))], (Q191 a_walks), []⟩ : St) hn mix (hand_in hΓ rfl) (by kernel_rfl) ?_
  refine awp_seq ?_
  refine rgs0 (⟨[(0, (Q193 a_tree)), (1, (.vsl 34001 a_walks.length)), (3, (.int .i64 a_root)), (9, (Q194 a_from)), (10, (.int .i64 a_from))], (Q191 a_walks), []⟩ : St) hn mix (hand_in hΓ rfl) (by kernel_rfl) ?_
  refine awp_block ?_
  refine awp_le (st' := (fun ((i1, l2) : (Int × List (Int))) => (⟨(Q189 a_tree l2 a_root a_from i1), (Q190 l2), []⟩ : St)) (a_from, a_walks)) (Le.refl _ _) ?_
  obtain ⟨x10, hx10, h⟩ := bind_some h
  refine awp_loop (fun ((i1, l2) : (Int × List (Int))) => (⟨(Q189 a_tree l2 a_root a_from i1), (Q190 l2), []⟩ : St)) _ (fun (x_ : (List (Int) ⊕ (Bool × List (Int)))) (e : Exit) (st : St) => match x_ with | (.inl l3) => e = (.exit 0) ∧ Le Γ st (⟨[], [(34001, .arr 1 3 l3.length (fun i => eI64 (l3.getD i (0 : Int))))], []⟩ : St) | (.inr r_) => e = .ret ∧ retK Try.prog Try.f44.results.toList (Q191 a_walks) (.bool r_.1) [(34001, .arr 1 3 r_.2.length (fun i => eI64 (r_.2.getD i (0 : Int))))] e st) ?_ hx10 ?_
  · rintro ⟨i1, l2⟩ y h
    unfold m_dom_leads_L1 at h
    refine awp_seq ?_
    refine rgs0 (⟨[(0, (Q193 a_tree)), (1, (.vsl 34001 l2.length)), (3, (.int .i64 a_root)), (9, (Q194 a_from)), (10, (.int .i64 i1)), (16, (.bool ((i1 : Int) != a_root)))], (Q190 l2), []⟩ : St) hn mix (hand_in hΓ rfl) (by kernel_rfl) ?_
    refine awp_cond ((i1 : Int) != a_root) (by kernel_rfl) (fun hb => ?_) (fun hb => ?_)
    · replace h := cond_t hb h
      clear hb
      refine awp_skip ?_
      refine then_normal ?_
      refine awp_seq ?_
      refine awp_block ?_
      refine awp_seq ?_
      obtain ⟨hc4, h⟩ := chk_some h
      refine rgs [] [] (⟨[(0, (Q193 a_tree)), (1, (.vsl 34001 l2.length)), (3, (.int .i64 a_root)), (9, (Q194 a_from)), (10, (.int .i64 i1)), (25, (.bool (((l2.getD (i1).toNat (0 : Int)) : Int) != (0 : Int))))], (Q190 l2), []⟩ : St) [(InB i1 l2.length), (l2.length = l2.length)] hn mix (hand_in hΓ rfl) (by kernel_rfl) ⟨hc4, rfl, trivial⟩ ?_
      refine awp_cond (((l2.getD (i1).toNat (0 : Int)) : Int) != (0 : Int)) (by kernel_rfl) (fun hb => ?_) (fun hb => ?_)
      · replace h := cond_t hb h
        clear hb
        obtain ⟨hc5, h⟩ := chk_some h
        refine rgs [] [] (⟨[(8, (.bool (((l2.getD (i1).toNat (0 : Int)) : Int) != (w64 (a_from + (1 : Int))))))], (Q190 l2), []⟩ : St) [(InB i1 l2.length), (l2.length = l2.length)] hn mix (hand_in hΓ rfl) (by kernel_rfl) ⟨hc5, rfl, trivial⟩ ?_
        refine awp_ret ?_
        refine then_ret ?_
        refine block_ret ?_
        refine then_ret ?_
        obtain rfl := Option.some.inj h
        exact ⟨(by intro hh; cases hh), rfl, ⟨.inl rfl, [(34001, 34001)], by kernel_rfl⟩⟩
      · replace h := cond_f hb h
        clear hb
        refine awp_skip ?_
        refine then_normal ?_
        refine awp_seq ?_
        obtain ⟨hc6, h⟩ := chk_some h
        obtain ⟨x7, hx7, h⟩ := bind_some h
        refine rgs [⟨[], [], (.bool x7), [], []⟩] [] (⟨[(0, (Q193 a_tree)), (1, (.vsl 34001 l2.length)), (3, (.int .i64 a_root)), (9, (Q194 a_from)), (10, (.int .i64 i1)), (38, (.bool (!x7)))], (Q190 l2), []⟩ : St) [(InB i1 a_tree.length), (Spec Try.prog 45 [(Q193 a_tree), (.int .i64 (a_tree.getD (i1).toNat (0 : Int)))] [] (.bool x7) [])] hn mix (hand_in hΓ rfl) (by kernel_rfl) ⟨hc6, (ok_dom_isPlace a_tree (a_tree.getD (i1).toNat (0 : Int)) x7 hx7), trivial⟩ ?_
        refine awp_cond (!x7) (by kernel_rfl) (fun hb => ?_) (fun hb => ?_)
        · replace h := cond_t hb h
          clear hb
          refine rgs0 (⟨[(8, (.bool false))], (Q190 l2), []⟩ : St) hn mix (hand_in hΓ rfl) (by kernel_rfl) ?_
          refine awp_ret ?_
          refine then_ret ?_
          refine block_ret ?_
          refine then_ret ?_
          obtain rfl := Option.some.inj h
          exact ⟨(by intro hh; cases hh), rfl, ⟨.inl rfl, [(34001, 34001)], by kernel_rfl⟩⟩
        · replace h := cond_f hb h
          clear hb
          refine awp_skip ?_
          refine then_normal ?_
          obtain ⟨hc8, h⟩ := chk_some h
          refine rg [] [] (⟨(Q189 a_tree l2 a_root a_from i1), [(34001, .arr 1 3 l2.length (fun i_ => AV.eraseAll (fun n_ => memB n_ [34001]) ((putF (fun i => eI64 (l2.getD i (0 : Int))) (i1).toNat 0 [(Q194 a_from)]) i_)))], []⟩ : St) [(InB i1 l2.length), (l2.length = l2.length)] hn mix (hand_in hΓ rfl) (by kernel_rfl) ⟨hc8, rfl, trivial⟩ ?_
          refine block_normal ?_
          refine then_normal ?_
          refine awp_le (Le.trans (le_of (st' := (⟨(Q189 a_tree l2 a_root a_from i1), [(34001, .arr 1 3 l2.length (fun i => eI64 ((Q192 l2 i1 a_from).getD i (0 : Int))))], []⟩ : St)) (TmpsLe.refl _) (.arr (leL_of_eq (List.length_set ..).symm (fun k_ hk_ => (congrArg (AV.eraseAll (fun n_ => memB n_ [34001])) ((putF_set (fun _ _ => rfl) (inB_lt0 hc8) rfl) k_ hk_)).trans rfl)) .nil)) (le_eq (congrArg (fun k_ : Nat => (⟨[(0, (Q193 a_tree)), (1, (.vsl 34001 k_)), (3, (.int .i64 a_root)), (9, (Q194 a_from)), (10, (.int .i64 i1))], [(34001, .arr 1 3 k_ (fun i => eI64 ((Q192 l2 i1 a_from).getD i (0 : Int))))], []⟩ : St)) (show l2.length = (Q192 l2 i1 a_from).length from (List.length_set ..).symm)))) ?_
          obtain ⟨hc9, h⟩ := chk_some h
          refine rg [] [] (⟨[(0, (Q193 a_tree)), (1, (.vsl 34001 (Q192 l2 i1 a_from).length)), (3, (.int .i64 a_root)), (9, (Q194 a_from)), (10, (.int .i64 (a_tree.getD (i1).toNat (0 : Int))))], [(34001, .arr 1 3 ((Q192 l2 i1 a_from).length) (fun i => eI64 ((Q192 l2 i1 a_from).getD i (0 : Int))))], []⟩ : St) [(InB i1 a_tree.length)] hn mix (hand_in hΓ rfl) (by kernel_rfl) ⟨hc9, trivial⟩ ?_
          obtain rfl := Option.some.inj h
          exact ⟨rfl, Le.refl _ _⟩
    · replace h := cond_f hb h
      clear hb
      refine awp_exit ?_
      refine then_exit ?_
      obtain rfl := Option.some.inj h
      exact ⟨(by intro hh; cases hh), rfl, le_restrict_eq [] [34001] (by kernel_rfl) (hand_in hΓ rfl)⟩
  · clear hx10
    rcases x10 with l3 | r12
    · rintro e st' ⟨rfl, hl11⟩
      refine block_here ?_
      refine then_normal ?_
      refine awp_le hl11 ?_
      refine rgs0 (⟨[(8, (.bool true))], [(34001, .arr 1 3 l3.length (fun i => eI64 (l3.getD i (0 : Int))))], []⟩ : St) hn mix (hand_in hΓ rfl) (by kernel_rfl) ?_
      refine awp_ret ?_
      obtain rfl := Option.some.inj h
      exact ⟨.inl rfl, [(34001, 34001)], by kernel_rfl⟩
    · rintro e st' ⟨rfl, hk⟩
      refine block_ret ?_
      refine then_ret ?_
      obtain rfl := Option.some.inj h
      exact hk

noncomputable def m_dom_isTree_L1 (a_tree : List (Int)) (x1 : Int) : (Int × List (Int)) → Option (LR (Int × List (Int)) (Unit ⊕ Bool)) :=
  fun ((i3, l4) : (Int × List (Int))) => (bif (decide ((i3 : Int) < (a_tree.length : Int))) then (chk (InB i3 a_tree.length) ((bif ((((a_tree.getD (i3).toNat (0 : Int)) : Int) != (-2 : Int)) == true) then m_dom_leads a_tree l4 i3 x1 else some (false, [])).bind fun x6 => (chk (((((a_tree.getD (i3).toNat (0 : Int)) : Int) != (-2 : Int)) == true) = true → (l4.length = x6.2.length)) (bif (bif (((a_tree.getD (i3).toNat (0 : Int)) : Int) != (-2 : Int)) then (!x6.1) else false) then (some (.done (.inr false))) else (some (.next ((w64 (i3 + (1 : Int))), (bif ((((a_tree.getD (i3).toNat (0 : Int)) : Int) != (-2 : Int)) == true) then x6.2 else l4)))))))) else (some (.done (.inl ()))))
noncomputable def Q197 (a_tree : List (Int)) := (a_tree.length : Int)
noncomputable def Q195 (a_tree : List (Int)) (i3 : Int) := (((a_tree.getD (i3).toNat (0 : Int)) : Int) != (-2 : Int))
noncomputable def Q199 (a_tree : List (Int)) (i3 : Int) := ((Q195 a_tree i3) == true)
noncomputable def Q196 (a_tree : List (Int)) : AV := (AV.list 1 eI64 (0 : Int) a_tree .none)
noncomputable def Q201 (a_tree : List (Int)) := (List.replicate ((Q197 a_tree)).toNat (0 : Int))
noncomputable def Q198 (l4 : List (Int)) : List (Nat × Own) := [(12, .arr 1 3 l4.length (fun i => eI64 (l4.getD i (0 : Int))))]
noncomputable def Q200 (a_tree : List (Int)) (x1 : Int) (l4 : List (Int)) (i3 : Int) (x6 : (Bool × List (Int))) : List (Nat × AV) := [(0, (Q196 a_tree)), (3, (.int .i64 x1)), (4, (.vsl 12 l4.length)), (14, (.int .i64 (Q197 a_tree))), (15, (.int .i64 i3)), (30, (.bool (bif (Q195 a_tree i3) then (!x6.1) else false)))]
noncomputable def m_dom_isTree (a_tree : List (Int)) : Option Bool :=
  ((m_slices_Index_int_int a_tree (-1 : Int)).bind fun x1 => (bif (decide ((x1 : Int) < (0 : Int))) then (some false) else (chk (0 ≤ (a_tree.length : Int) ∧ (a_tree.length : Int) ≤ (a_tree.length : Int) ∧ (a_tree.length : Int) ≤ (room : Int)) ((loopO (S := (Int × List (Int))) (X := (Unit ⊕ Bool)) (m_dom_isTree_L1 a_tree x1) ((0 : Int), (List.replicate ((a_tree.length : Int)).toNat (0 : Int)))).bind (fun x8 => (match x8 with | (.inl _) => (some true) | (.inr r10) => (some r10)))))))
theorem ok_dom_isTree (a_tree : List (Int)) (r : Bool) (h : m_dom_isTree a_tree = some r) : Spec Try.prog 39 [(AV.list 1 eI64 (0 : Int) a_tree .none)] [] (.bool r) [] := by
  refine spec_of_awp (fn := Try.f39) Try.func39 rfl rfl (by kernel_rfl) (fun Γ hn hΓ => ?_)
  have hn : Γ.n = 32 := hn
  unfold m_dom_isTree at h
  refine rgs0 (⟨[(0, (Q196 a_tree))], [], []⟩ : St) hn mix (no_hand hΓ) (by kernel_rfl) ?_
  obtain ⟨x1, hx1, h⟩ := bind_some h
  refine rgs [⟨[], [], (.int .i64 x1), [], []⟩] [] (⟨[(0, (Q196 a_tree)), (3, (.int .i64 x1))], [], []⟩ : St) [(Spec Try.prog 43 [(Q196 a_tree), (.int .i64 (-1 : Int))] [] (.int .i64 x1) [])] hn mix (no_hand hΓ) (by kernel_rfl) ⟨(ok_slices_Index_int_int a_tree (-1 : Int) x1 hx1), trivial⟩ ?_
  refine awp_seq ?_
  refine rgs0 (⟨[(0, (Q196 a_tree)), (3, (.int .i64 x1)), (9, (.bool (decide ((x1 : Int) < (0 : Int)))))], [], []⟩ : St) hn mix (no_hand hΓ) (by kernel_rfl) ?_
  refine awp_cond (decide ((x1 : Int) < (0 : Int))) (by kernel_rfl) (fun hb => ?_) (fun hb => ?_)
  · replace h := cond_t hb h
    clear hb
    refine rgs0 (⟨[(2, (.bool false))], [], []⟩ : St) hn mix (no_hand hΓ) (by kernel_rfl) ?_
    refine awp_ret ?_
    refine then_ret ?_
    obtain rfl := Option.some.inj h
    exact ⟨.inl rfl, [], by kernel_rfl⟩
  · replace h := cond_f hb h
    clear hb
    refine awp_skip ?_
    refine then_normal ?_
    obtain ⟨hc2, h⟩ := chk_some h
    refine rgs [] [] (⟨[(0, (Q196 a_tree)), (3, (.int .i64 x1)), (4, (.vsl 12 ((Q197 a_tree)).toNat))], [(12, .arr 1 3 (((Q197 a_tree)).toNat) (fun i_ => AV.eraseAll (fun n_ => memB n_ [12]) ((fun _ => [(.int .i64 (0 : Int))]) i_)))], []⟩ : St) [(0 ≤ (Q197 a_tree) ∧ (Q197 a_tree) ≤ (Q197 a_tree) ∧ (Q197 a_tree) ≤ (room : Int))] hn mix (no_hand hΓ) (by kernel_rfl) ⟨hc2, trivial⟩ ?_
    refine awp_le (Le.trans (le_of (st' := (⟨[(0, (Q196 a_tree)), (3, (.int .i64 x1)), (4, (.vsl 12 ((Q197 a_tree)).toNat))], [(12, .arr 1 3 (((Q197 a_tree)).toNat) (fun i => eI64 ((Q201 a_tree).getD i (0 : Int))))], []⟩ : St)) (TmpsLe.refl _) (.arr (fun k hk => make_le (e := eI64) (d := (0 : Int)) (.cons (AVle.refl _) .nil) _ k (repl_lt hk)) .nil)) (le_eq (congrArg (fun k_ : Nat => (⟨[(0, (Q196 a_tree)), (3, (.int .i64 x1)), (4, (.vsl 12 k_))], [(12, .arr 1 3 k_ (fun i => eI64 ((Q201 a_tree).getD i (0 : Int))))], []⟩ : St)) (show ((Q197 a_tree)).toNat = (Q201 a_tree).length from (List.length_replicate ..).symm)))) ?_
    refine awp_seq ?_
    refine rgs0 (⟨[(0, (Q196 a_tree)), (3, (.int .i64 x1)), (4, (.vsl 12 (Q201 a_tree).length)), (14, (.int .i64 (Q197 a_tree))), (15, (.int .i64 (0 : Int)))], [(12, .arr 1 3 ((Q201 a_tree).length) (fun i => eI64 ((Q201 a_tree).getD i (0 : Int))))], []⟩ : St) hn mix (no_hand hΓ) (by kernel_rfl) ?_
    refine awp_block ?_
    refine awp_le (st' := (fun ((i3, l4) : (Int × List (Int))) => (⟨[(0, (Q196 a_tree)), (3, (.int .i64 x1)), (4, (.vsl 12 l4.length)), (14, (.int .i64 (Q197 a_tree))), (15, (.int .i64 i3))], (Q198 l4), []⟩ : St)) ((0 : Int), (Q201 a_tree))) (Le.refl _ _) ?_
    obtain ⟨x8, hx8, h⟩ := bind_some h
    refine awp_loop (fun ((i3, l4) : (Int × List (Int))) => (⟨[(0, (Q196 a_tree)), (3, (.int .i64 x1)), (4, (.vsl 12 l4.length)), (14, (.int .i64 (Q197 a_tree))), (15, (.int .i64 i3))], (Q198 l4), []⟩ : St)) _ (fun (x_ : (Unit ⊕ Bool)) (e : Exit) (st : St) => match x_ with | (.inl _) => e = (.exit 0) ∧ Le Γ st (⟨[], [], []⟩ : St) | (.inr r_) => e = .ret ∧ retK Try.prog Try.f39.results.toList [] (.bool r_) [] e st) ?_ hx8 ?_
    · rintro ⟨i3, l4⟩ y h
      unfold m_dom_isTree_L1 at h
      refine rgs0 (⟨[(0, (Q196 a_tree)), (3, (.int .i64 x1)), (4, (.vsl 12 l4.length)), (14, (.int .i64 (Q197 a_tree))), (15, (.int .i64 i3)), (16, (.bool (decide ((i3 : Int) < (Q197 a_tree)))))], (Q198 l4), []⟩ : St) hn mix (no_hand hΓ) (by kernel_rfl) ?_
      refine awp_seq ?_
      refine awp_cond (decide ((i3 : Int) < (Q197 a_tree))) (by kernel_rfl) (fun hb => ?_) (fun hb => ?_)
      · replace h := cond_t hb h
        clear hb
        refine awp_skip ?_
        refine then_normal ?_
        refine awp_seq ?_
        refine awp_block ?_
        refine rgs0 (⟨[(0, (Q196 a_tree)), (3, (.int .i64 x1)), (4, (.vsl 12 l4.length)), (5, (.int .i64 i3)), (14, (.int .i64 (Q197 a_tree))), (15, (.int .i64 i3))], (Q198 l4), []⟩ : St) hn mix (no_hand hΓ) (by kernel_rfl) ?_
        obtain ⟨hc5, h⟩ := chk_some h
        obtain ⟨x6, hx6, h⟩ := bind_some h
        obtain ⟨hc7, h⟩ := chk_some h
        refine rgs [⟨[(12, 34001)], [], (.bool x6.1), [(34001, .arr 1 3 x6.2.length (fun i => eI64 (x6.2.getD i (0 : Int))))], []⟩] [] (⟨(Q200 a_tree x1 l4 i3 x6), [(12, .arr 1 3 (bif (Q199 a_tree i3) then x6.2.length else l4.length) (fun i_ => AV.eraseAll (fun n_ => memB n_ [12]) ((fun i => bif (Q199 a_tree i3) then (fun i => eI64 (x6.2.getD i (0 : Int))) i else (fun i => eI64 (l4.getD i (0 : Int))) i) i_)))], []⟩ : St) [(InB i3 a_tree.length), ((Q199 a_tree i3) = true → (Q199 a_tree i3) = true), ((Q199 a_tree i3) = true → (Q199 a_tree i3) = true), ((Q199 a_tree i3) = true → (Q199 a_tree i3) = true), ((Q199 a_tree i3) = true → (Q199 a_tree i3) = true), ((Q199 a_tree i3) = true → (Spec Try.prog 44 [(Q196 a_tree), (.vsl 34001 l4.length), (.int .i64 i3), (.int .i64 x1)] [(34001, .arr 1 3 l4.length (fun i => eI64 (l4.getD i (0 : Int))))] (.bool x6.1) [(34001, .arr 1 3 x6.2.length (fun i => eI64 (x6.2.getD i (0 : Int))))])), ((Q199 a_tree i3) = true → (Q199 a_tree i3) = true), ((Q195 a_tree i3) = true → (Q199 a_tree i3) = true)] hn mix (no_hand hΓ) (by kernel_rfl) ⟨hc5, (fun hg => hg), (fun hg => hg), (fun hg => hg), (fun hg => hg), (fun hg => (ok_dom_leads a_tree l4 i3 x1 x6 (cond_t hg hx6))), (fun hg => hg), gT, trivial⟩ ?_
        refine awp_le (Le.trans (le_of (st' := (⟨(Q200 a_tree x1 l4 i3 x6), [(12, .arr 1 3 (bif (Q199 a_tree i3) then x6.2.length else l4.length) (fun i => eI64 ((bif (Q199 a_tree i3) then x6.2 else l4).getD i (0 : Int))))], []⟩ : St)) (TmpsLe.refl _) (.arr (leL_of_eq bif_len (fun k_ hk_ => (congrArg (AV.eraseAll (fun n_ => memB n_ [12])) ((fun _ _ => bif_row) k_ hk_)).trans rfl)) .nil)) (Le.trans (le_eq (congrArg (fun k_ : Nat => (⟨(Q200 a_tree x1 l4 i3 x6), [(12, .arr 1 3 k_ (fun i => eI64 ((bif (Q199 a_tree i3) then x6.2 else l4).getD i (0 : Int))))], []⟩ : St)) (show (bif (Q199 a_tree i3) then x6.2.length else l4.length) = (bif (Q199 a_tree i3) then x6.2 else l4).length from bif_len))) (le_eq (congrArg (fun k_ : Nat => (⟨[(0, (Q196 a_tree)), (3, (.int .i64 x1)), (4, (.vsl 12 k_)), (14, (.int .i64 (Q197 a_tree))), (15, (.int .i64 i3)), (30, (.bool (bif (Q195 a_tree i3) then (!x6.1) else false)))], [(12, .arr 1 3 ((bif (Q199 a_tree i3) then x6.2 else l4).length) (fun i => eI64 ((bif (Q199 a_tree i3) then x6.2 else l4).getD i (0 : Int))))], []⟩ : St)) (show l4.length = (bif (Q199 a_tree i3) then x6.2 else l4).length from (bif_was hc7)))))) ?_
        refine awp_cond (bif (Q195 a_tree i3) then (!x6.1) else false) (by kernel_rfl) (fun hb => ?_) (fun hb => ?_)
        · replace h := cond_t hb h
          clear hb
          refine rgs0 (⟨[(2, (.bool false))], [], []⟩ : St) hn mix (no_hand hΓ) (by kernel_rfl) ?_
          refine awp_ret ?_
          refine block_ret ?_
          refine then_ret ?_
          obtain rfl := Option.some.inj h
          exact ⟨(by intro hh; cases hh), rfl, ⟨.inl rfl, [], by kernel_rfl⟩⟩
        · replace h := cond_f hb h
          clear hb
          refine awp_skip ?_
          refine block_normal ?_
          refine then_normal ?_
          refine rg0 (⟨[(0, (Q196 a_tree)), (3, (.int .i64 x1)), (4, (.vsl 12 (bif (Q199 a_tree i3) then x6.2 else l4).length)), (14, (.int .i64 (Q197 a_tree))), (15, (.int .i64 (w64 (i3 + (1 : Int)))))], [(12, .arr 1 3 ((bif (Q199 a_tree i3) then x6.2 else l4).length) (fun i => eI64 ((bif (Q199 a_tree i3) then x6.2 else l4).getD i (0 : Int))))], []⟩ : St) hn mix (no_hand hΓ) (by kernel_rfl) ?_
          obtain rfl := Option.some.inj h
          exact ⟨rfl, Le.refl _ _⟩
      · replace h := cond_f hb h
        clear hb
        refine awp_exit ?_
        refine then_exit ?_
        obtain rfl := Option.some.inj h
        exact ⟨(by intro hh; cases hh), rfl, le_restrict_eq [] [] (by kernel_rfl) (no_hand hΓ)⟩
    · clear hx8
      rcases x8 with _ | r10
      · rintro e st' ⟨rfl, hl9⟩
        refine block_here ?_
        refine then_normal ?_
        refine awp_le hl9 ?_
        refine rgs0 (⟨[(2, (.bool true))], [], []⟩ : St) hn mix (no_hand hΓ) (by kernel_rfl) ?_
        refine awp_ret ?_
        obtain rfl := Option.some.inj h
        exact ⟨.inl rfl, [], by kernel_rfl⟩
      · rintro e st' ⟨rfl, hk⟩
        refine block_ret ?_
        refine then_ret ?_
        obtain rfl := Option.some.inj h
        exact hk

noncomputable def m_dom_hasEntry (a_tree : List (Int)) (a_at : Int) : Option Bool :=
  ((m_dom_isPlace a_tree a_at).bind fun x1 => (chk ((x1 == true) = true → (InB a_at a_tree.length)) (some (bif x1 then (((a_tree.getD (a_at).toNat (0 : Int)) : Int) != (-2 : Int)) else false))))
theorem ok_dom_hasEntry (a_tree : List (Int)) (a_at : Int) (r : Bool) (h : m_dom_hasEntry a_tree a_at = some r) : Spec Try.prog 40 [(AV.list 1 eI64 (0 : Int) a_tree .none), (.int .i64 a_at)] [] (.bool r) [] := by
  refine spec_of_awp (fn := Try.f40) Try.func40 rfl rfl (by kernel_rfl) (fun Γ hn hΓ => ?_)
  have hn : Γ.n = 15 := hn
  unfold m_dom_hasEntry at h
  refine rgs0 (⟨[(0, (AV.list 1 eI64 (0 : Int) a_tree .none)), (1, (.int .i64 a_at))], [], []⟩ : St) hn mix (no_hand hΓ) (by kernel_rfl) ?_
  obtain ⟨x1, hx1, h⟩ := bind_some h
  obtain ⟨hc2, h⟩ := chk_some h
  refine rgs [⟨[], [], (.bool x1), [], []⟩] [] (⟨[(4, (.bool (bif x1 then (((a_tree.getD (a_at).toNat (0 : Int)) : Int) != (-2 : Int)) else false)))], [], []⟩ : St) [(Spec Try.prog 45 [(AV.list 1 eI64 (0 : Int) a_tree .none), (.int .i64 a_at)] [] (.bool x1) []), ((x1 == true) = true → (x1 == true) = true), ((x1 == true) = true → (x1 == true) = true), ((x1 == true) = true → (InB a_at a_tree.length)), ((x1 == true) = true → (x1 == true) = true), ((x1 == true) = true → (x1 == true) = true), (x1 = true → (x1 == true) = true)] hn mix (no_hand hΓ) (by kernel_rfl) ⟨(ok_dom_isPlace a_tree a_at x1 hx1), (fun hg => hg), (fun hg => hg), (fun hg => (hc2 hg)), (fun hg => hg), (fun hg => hg), gT, trivial⟩ ?_
  refine awp_ret ?_
  obtain rfl := Option.some.inj h
  exact ⟨.inl rfl, [], by kernel_rfl⟩

noncomputable def Q202 (x1 : Bool) (x2 : Bool) := ((bif x1 then x2 else false) == true)
noncomputable def m_dom_areIn (a_tree : List (Int)) (a_a : Int) (a_b : Int) : Option Bool :=
  ((m_dom_isTree a_tree).bind fun x1 => ((bif (x1 == true) then m_dom_hasEntry a_tree a_a else some false).bind fun x2 => ((bif ((bif x1 then x2 else false) == true) then m_dom_hasEntry a_tree a_b else some false).bind fun x3 => (some (bif (bif x1 then x2 else false) then x3 else false)))))
theorem ok_dom_areIn (a_tree : List (Int)) (a_a : Int) (a_b : Int) (r : Bool) (h : m_dom_areIn a_tree a_a a_b = some r) : Spec Try.prog 35 [(AV.list 1 eI64 (0 : Int) a_tree .none), (.int .i64 a_a), (.int .i64 a_b)] [] (.bool r) [] := by
  refine spec_of_awp (fn := Try.f35) Try.func35 rfl rfl (by kernel_rfl) (fun Γ hn hΓ => ?_)
  have hn : Γ.n = 19 := hn
  unfold m_dom_areIn at h
  refine rgs0 (⟨[(0, (AV.list 1 eI64 (0 : Int) a_tree .none)), (1, (.int .i64 a_a)), (2, (.int .i64 a_b))], [], []⟩ : St) hn mix (no_hand hΓ) (by kernel_rfl) ?_
  obtain ⟨x1, hx1, h⟩ := bind_some h
  obtain ⟨x2, hx2, h⟩ := bind_some h
  obtain ⟨x3, hx3, h⟩ := bind_some h
  refine rgs [⟨[], [], (.bool x1), [], []⟩, ⟨[], [], (.bool x2), [], []⟩, ⟨[], [], (.bool x3), [], []⟩] [] (⟨[(6, (.bool (bif (bif x1 then x2 else false) then x3 else false)))], [], []⟩ : St) [(Spec Try.prog 39 [(AV.list 1 eI64 (0 : Int) a_tree .none)] [] (.bool x1) []), ((x1 == true) = true → (x1 == true) = true), ((x1 == true) = true → (x1 == true) = true), ((x1 == true) = true → (Spec Try.prog 40 [(AV.list 1 eI64 (0 : Int) a_tree .none), (.int .i64 a_a)] [] (.bool x2) [])), (x1 = true → (x1 == true) = true), ((Q202 x1 x2) = true → (Q202 x1 x2) = true), ((Q202 x1 x2) = true → (Q202 x1 x2) = true), ((Q202 x1 x2) = true → (Spec Try.prog 40 [(AV.list 1 eI64 (0 : Int) a_tree .none), (.int .i64 a_b)] [] (.bool x3) [])), ((bif x1 then x2 else false) = true → (Q202 x1 x2) = true)] hn mix (no_hand hΓ) (by kernel_rfl) ⟨(ok_dom_isTree a_tree x1 hx1), (fun hg => hg), (fun hg => hg), (fun hg => (ok_dom_hasEntry a_tree a_a x2 (cond_t hg hx2))), gT, (fun hg => hg), (fun hg => hg), (fun hg => (ok_dom_hasEntry a_tree a_b x3 (cond_t hg hx3))), gT, trivial⟩ ?_
  refine awp_ret ?_
  obtain rfl := Option.some.inj h
  exact ⟨.inl rfl, [], by kernel_rfl⟩

noncomputable def m_dom_meet_L1 (a_tree : List (Int)) : (Int × List (Bool)) → Option (LR (Int × List (Bool)) (List (Bool))) :=
  fun ((i2, l3) : (Int × List (Bool))) => (bif ((i2 : Int) != (-1 : Int)) then (chk (InB i2 l3.length) (chk (InB i2 a_tree.length) (some (.next ((a_tree.getD (i2).toNat (0 : Int)), (l3.set (i2).toNat true)))))) else (some (.done l3)))
noncomputable def m_dom_meet_L2 (a_tree : List (Int)) (l4 : List (Bool)) : Int → Option (LR Int Int) :=
  fun (i9 : Int) => (chk (InB i9 l4.length) (bif (!(l4.getD (i9).toNat false)) then (chk (InB i9 a_tree.length) (some (.next (a_tree.getD (i9).toNat (0 : Int))))) else (some (.done i9))))
noncomputable def Q203 (a_tree : List (Int)) : AV := (AV.list 1 eI64 (0 : Int) a_tree .none)
noncomputable def Q204 (a_tree : List (Int)) := (List.replicate ((a_tree.length : Int)).toNat false)
noncomputable def Q205 (x7 : List (Bool)) : List (Nat × Own) := [(11, .arr 1 4 x7.length (fun i => eB (x7.getD i false)))]
noncomputable def Q206 (a_tree : List (Int)) (a_b : Int) (l3 : List (Bool)) (i2 : Int) : List (Nat × AV) := [(0, (Q203 a_tree)), (2, (.int .i64 a_b)), (7, (.vsl 11 l3.length)), (8, (.int .i64 i2))]
noncomputable def m_dom_meet (a_tree : List (Int)) (a_a : Int) (a_b : Int) : Option Int :=
  (chk (0 ≤ (a_tree.length : Int) ∧ (a_tree.length : Int) ≤ (a_tree.length : Int) ∧ (a_tree.length : Int) ≤ (room : Int)) ((loopO (S := (Int × List (Bool))) (X := List (Bool)) (m_dom_meet_L1 a_tree) (a_a, (List.replicate ((a_tree.length : Int)).toNat false))).bind (fun x7 => (((loopO (S := Int) (X := Int) (m_dom_meet_L2 a_tree x7) a_b).bind (fun x13 => ((some x13))))))))
theorem ok_dom_meet (a_tree : List (Int)) (a_a : Int) (a_b : Int) (r : Int) (h : m_dom_meet a_tree a_a a_b = some r) : Spec Try.prog 36 [(AV.list 1 eI64 (0 : Int) a_tree .none), (.int .i64 a_a), (.int .i64 a_b)] [] (.int .i64 r) [] := by
  refine spec_of_awp (fn := Try.f36) Try.func36 rfl rfl (by kernel_rfl) (fun Γ hn hΓ => ?_)
  have hn : Γ.n = 32 := hn
  unfold m_dom_meet at h
  refine rgs0 (⟨[(0, (Q203 a_tree)), (1, (.int .i64 a_a)), (2, (.int .i64 a_b))], [], []⟩ : St) hn mix (no_hand hΓ) (by kernel_rfl) ?_
  obtain ⟨hc1, h⟩ := chk_some h
  refine rgs [] [] (⟨[(0, (Q203 a_tree)), (1, (.int .i64 a_a)), (2, (.int .i64 a_b)), (7, (.vsl 11 ((a_tree.length : Int)).toNat))], [(11, .arr 1 4 (((a_tree.length : Int)).toNat) (fun i_ => AV.eraseAll (fun n_ => memB n_ [11]) ((fun _ => [(.bool false)]) i_)))], []⟩ : St) [(0 ≤ (a_tree.length : Int) ∧ (a_tree.length : Int) ≤ (a_tree.length : Int) ∧ (a_tree.length : Int) ≤ (room : Int))] hn mix (no_hand hΓ) (by kernel_rfl) ⟨hc1, trivial⟩ ?_
  refine awp_le (Le.trans (le_of (st' := (⟨[(0, (Q203 a_tree)), (1, (.int .i64 a_a)), (2, (.int .i64 a_b)), (7, (.vsl 11 ((a_tree.length : Int)).toNat))], [(11, .arr 1 4 (((a_tree.length : Int)).toNat) (fun i => eB ((Q204 a_tree).getD i false)))], []⟩ : St)) (TmpsLe.refl _) (.arr (fun k hk => make_le (e := eB) (d := false) (.cons (AVle.refl _) .nil) _ k (repl_lt hk)) .nil)) (le_eq (congrArg (fun k_ : Nat => (⟨[(0, (Q203 a_tree)), (1, (.int .i64 a_a)), (2, (.int .i64 a_b)), (7, (.vsl 11 k_))], [(11, .arr 1 4 k_ (fun i => eB ((Q204 a_tree).getD i false)))], []⟩ : St)) (show ((a_tree.length : Int)).toNat = (Q204 a_tree).length from (List.length_replicate ..).symm)))) ?_
  refine awp_seq ?_
  refine rgs0 (⟨[(0, (Q203 a_tree)), (2, (.int .i64 a_b)), (7, (.vsl 11 (Q204 a_tree).length)), (8, (.int .i64 a_a))], [(11, .arr 1 4 ((Q204 a_tree).length) (fun i => eB ((Q204 a_tree).getD i false)))], []⟩ : St) hn mix (no_hand hΓ) (by kernel_rfl) ?_
  refine awp_block ?_
  refine awp_le (st' := (fun ((i2, l3) : (Int × List (Bool))) => (⟨(Q206 a_tree a_b l3 i2), [(11, .arr 1 4 l3.length (fun i => eB (l3.getD i false)))], []⟩ : St)) (a_a, (Q204 a_tree))) (Le.refl _ _) ?_
  obtain ⟨x7, hx7, h⟩ := bind_some h
  refine awp_loop (fun ((i2, l3) : (Int × List (Bool))) => (⟨(Q206 a_tree a_b l3 i2), [(11, .arr 1 4 l3.length (fun i => eB (l3.getD i false)))], []⟩ : St)) _ (fun (l4 : List (Bool)) (e : Exit) (st : St) => e = (.exit 0) ∧ Le Γ st (⟨[(0, (Q203 a_tree)), (2, (.int .i64 a_b)), (7, (.vsl 11 l4.length))], [(11, .arr 1 4 l4.length (fun i => eB (l4.getD i false)))], []⟩ : St)) ?_ hx7 ?_
  · rintro ⟨i2, l3⟩ y h
    unfold m_dom_meet_L1 at h
    refine awp_seq ?_
    refine rgs0 (⟨[(0, (Q203 a_tree)), (2, (.int .i64 a_b)), (7, (.vsl 11 l3.length)), (8, (.int .i64 i2)), (14, (.bool ((i2 : Int) != (-1 : Int))))], [(11, .arr 1 4 l3.length (fun i => eB (l3.getD i false)))], []⟩ : St) hn mix (no_hand hΓ) (by kernel_rfl) ?_
    refine awp_cond ((i2 : Int) != (-1 : Int)) (by kernel_rfl) (fun hb => ?_) (fun hb => ?_)
    · replace h := cond_t hb h
      clear hb
      refine awp_skip ?_
      refine then_normal ?_
      refine awp_seq ?_
      refine awp_block ?_
      obtain ⟨hc5, h⟩ := chk_some h
      refine rg [] [] (⟨(Q206 a_tree a_b l3 i2), [(11, .arr 1 4 l3.length (fun i_ => AV.eraseAll (fun n_ => memB n_ [11]) ((putF (fun i => eB (l3.getD i false)) (i2).toNat 0 [(.bool true)]) i_)))], []⟩ : St) [(InB i2 l3.length), (l3.length = l3.length)] hn mix (no_hand hΓ) (by kernel_rfl) ⟨hc5, rfl, trivial⟩ ?_
      refine block_normal ?_
      refine then_normal ?_
      refine awp_le (Le.trans (le_of (st' := (⟨(Q206 a_tree a_b l3 i2), [(11, .arr 1 4 l3.length (fun i => eB ((l3.set (i2).toNat true).getD i false)))], []⟩ : St)) (TmpsLe.refl _) (.arr (leL_of_eq (List.length_set ..).symm (fun k_ hk_ => (congrArg (AV.eraseAll (fun n_ => memB n_ [11])) ((putF_set (fun _ _ => rfl) (inB_lt0 hc5) rfl) k_ hk_)).trans rfl)) .nil)) (le_eq (congrArg (fun k_ : Nat => (⟨[(0, (Q203 a_tree)), (2, (.int .i64 a_b)), (7, (.vsl 11 k_)), (8, (.int .i64 i2))], [(11, .arr 1 4 k_ (fun i => eB ((l3.set (i2).toNat true).getD i false)))], []⟩ : St)) (show l3.length = (l3.set (i2).toNat true).length from (List.length_set ..).symm)))) ?_
      obtain ⟨hc6, h⟩ := chk_some h
      refine rg [] [] (⟨[(0, (Q203 a_tree)), (2, (.int .i64 a_b)), (7, (.vsl 11 (l3.set (i2).toNat true).length)), (8, (.int .i64 (a_tree.getD (i2).toNat (0 : Int))))], [(11, .arr 1 4 ((l3.set (i2).toNat true).length) (fun i => eB ((l3.set (i2).toNat true).getD i false)))], []⟩ : St) [(InB i2 a_tree.length)] hn mix (no_hand hΓ) (by kernel_rfl) ⟨hc6, trivial⟩ ?_
      obtain rfl := Option.some.inj h
      exact ⟨rfl, Le.refl _ _⟩
    · replace h := cond_f hb h
      clear hb
      refine awp_exit ?_
      refine then_exit ?_
      obtain rfl := Option.some.inj h
      exact ⟨(by intro hh; cases hh), rfl, le_restrict_eq [0, 2, 7] [11] (by kernel_rfl) (no_hand hΓ)⟩
  · clear hx7
    rintro e st' ⟨rfl, hl8⟩
    refine block_here ?_
    refine then_normal ?_
    refine awp_le hl8 ?_
    refine awp_seq ?_
    refine awp_block ?_
    refine awp_le (st' := (fun (i9 : Int) => (⟨[(0, (Q203 a_tree)), (2, (.int .i64 i9)), (7, (.vsl 11 x7.length))], (Q205 x7), []⟩ : St)) a_b) (Le.refl _ _) ?_
    obtain ⟨x13, hx13, h⟩ := bind_some h
    refine awp_loop (fun (i9 : Int) => (⟨[(0, (Q203 a_tree)), (2, (.int .i64 i9)), (7, (.vsl 11 x7.length))], (Q205 x7), []⟩ : St)) _ (fun (i10 : Int) (e : Exit) (st : St) => e = (.exit 2) ∧ Le Γ st (⟨[(2, (.int .i64 i10))], [], []⟩ : St)) ?_ hx13 ?_
    · intro i9 y h
      unfold m_dom_meet_L2 at h
      refine awp_seq ?_
      obtain ⟨hc11, h⟩ := chk_some h
      refine rgs [] [] (⟨[(0, (Q203 a_tree)), (2, (.int .i64 i9)), (7, (.vsl 11 x7.length)), (26, (.bool (!(x7.getD (i9).toNat false))))], (Q205 x7), []⟩ : St) [(InB i9 x7.length), (x7.length = x7.length)] hn mix (no_hand hΓ) (by kernel_rfl) ⟨hc11, rfl, trivial⟩ ?_
      refine awp_cond (!(x7.getD (i9).toNat false)) (by kernel_rfl) (fun hb => ?_) (fun hb => ?_)
      · replace h := cond_t hb h
        clear hb
        refine awp_skip ?_
        refine then_normal ?_
        refine awp_block ?_
        obtain ⟨hc12, h⟩ := chk_some h
        refine rg [] [] (⟨[(0, (Q203 a_tree)), (2, (.int .i64 (a_tree.getD (i9).toNat (0 : Int)))), (7, (.vsl 11 x7.length))], (Q205 x7), []⟩ : St) [(InB i9 a_tree.length)] hn mix (no_hand hΓ) (by kernel_rfl) ⟨hc12, trivial⟩ ?_
        refine block_normal ?_
        obtain rfl := Option.some.inj h
        exact ⟨rfl, Le.refl _ _⟩
      · replace h := cond_f hb h
        clear hb
        refine awp_exit ?_
        refine then_exit ?_
        obtain rfl := Option.some.inj h
        exact ⟨(by intro hh; cases hh), rfl, le_restrict_eq [2] [] (by kernel_rfl) (no_hand hΓ)⟩
    · clear hx13
      rintro e st' ⟨rfl, hl14⟩
      refine block_here ?_
      refine then_normal ?_
      refine awp_le hl14 ?_
      refine rgs0 (⟨[(6, (.int .i64 x13))], [], []⟩ : St) hn mix (no_hand hΓ) (by kernel_rfl) ?_
      refine awp_ret ?_
      obtain rfl := Option.some.inj h
      exact ⟨.inl rfl, [], by kernel_rfl⟩

noncomputable def m_dom_Over (a_tree : List (Int)) (a_a : Int) (a_b : Int) : Option Bool :=
  ((m_dom_areIn a_tree a_a a_b).bind fun x1 => ((bif (x1 == true) then m_dom_meet a_tree a_a a_b else some (0 : Int)).bind fun x2 => (some (bif x1 then ((x2 : Int) == a_a) else false))))
theorem ok_dom_Over (a_tree : List (Int)) (a_a : Int) (a_b : Int) (r : Bool) (h : m_dom_Over a_tree a_a a_b = some r) : Spec Try.prog 27 [(AV.list 1 eI64 (0 : Int) a_tree .none), (.int .i64 a_a), (.int .i64 a_b)] [] (.bool r) [] := by
  refine spec_of_awp (fn := Try.f27) Try.func27 rfl rfl (by kernel_rfl) (fun Γ hn hΓ => ?_)
  have hn : Γ.n = 19 := hn
  unfold m_dom_Over at h
  refine rgs0 (⟨[(0, (AV.list 1 eI64 (0 : Int) a_tree .none)), (1, (.int .i64 a_a)), (2, (.int .i64 a_b))], [], []⟩ : St) hn mix (no_hand hΓ) (by kernel_rfl) ?_
  obtain ⟨x1, hx1, h⟩ := bind_some h
  obtain ⟨x2, hx2, h⟩ := bind_some h
  refine rgs [⟨[], [], (.bool x1), [], []⟩, ⟨[], [], (.int .i64 x2), [], []⟩] [] (⟨[(6, (.bool (bif x1 then ((x2 : Int) == a_a) else false)))], [], []⟩ : St) [(Spec Try.prog 35 [(AV.list 1 eI64 (0 : Int) a_tree .none), (.int .i64 a_a), (.int .i64 a_b)] [] (.bool x1) []), ((x1 == true) = true → (x1 == true) = true), ((x1 == true) = true → (x1 == true) = true), ((x1 == true) = true → (x1 == true) = true), ((x1 == true) = true → (Spec Try.prog 36 [(AV.list 1 eI64 (0 : Int) a_tree .none), (.int .i64 a_a), (.int .i64 a_b)] [] (.int .i64 x2) [])), ((x1 == true) = true → (x1 == true) = true), ((x1 == true) = true → (x1 == true) = true), (x1 = true → (x1 == true) = true)] hn mix (no_hand hΓ) (by kernel_rfl) ⟨(ok_dom_areIn a_tree a_a a_b x1 hx1), (fun hg => hg), (fun hg => hg), (fun hg => hg), (fun hg => (ok_dom_meet a_tree a_a a_b x2 (cond_t hg hx2))), (fun hg => hg), (fun hg => hg), gT, trivial⟩ ?_
  refine awp_ret ?_
  obtain rfl := Option.some.inj h
  exact ⟨.inl rfl, [], by kernel_rfl⟩

noncomputable def m_pdom_Over (a_tree : List (Int)) (a_a : Int) (a_b : Int) : Option Bool :=
  ((m_dom_Over a_tree a_a a_b).bind fun x1 => (some x1))
theorem ok_pdom_Over (a_tree : List (Int)) (a_a : Int) (a_b : Int) (r : Bool) (h : m_pdom_Over a_tree a_a a_b = some r) : Spec Try.prog 13 [(AV.list 1 eI64 (0 : Int) a_tree .none), (.int .i64 a_a), (.int .i64 a_b)] [] (.bool r) [] := by
  refine spec_of_awp (fn := Try.f13) Try.func13 rfl rfl (by kernel_rfl) (fun Γ hn hΓ => ?_)
  have hn : Γ.n = 11 := hn
  unfold m_pdom_Over at h
  refine rgs0 (⟨[(0, (AV.list 1 eI64 (0 : Int) a_tree .none)), (1, (.int .i64 a_a)), (2, (.int .i64 a_b))], [], []⟩ : St) hn mix (no_hand hΓ) (by kernel_rfl) ?_
  obtain ⟨x1, hx1, h⟩ := bind_some h
  refine rgs [⟨[], [], (.bool x1), [], []⟩] [] (⟨[(6, (.bool x1))], [], []⟩ : St) [(Spec Try.prog 27 [(AV.list 1 eI64 (0 : Int) a_tree .none), (.int .i64 a_a), (.int .i64 a_b)] [] (.bool x1) [])] hn mix (no_hand hΓ) (by kernel_rfl) ⟨(ok_dom_Over a_tree a_a a_b x1 hx1), trivial⟩ ?_
  refine awp_ret ?_
  obtain rfl := Option.some.inj h
  exact ⟨.inl rfl, [], by kernel_rfl⟩

noncomputable def m_pdom_Shut_L1 (a_g : TGraph) (x2 : List (Bool)) : (List (Int) × Int) → Option (LR (List (Int) × Int) (List (Int))) :=
  fun ((l3, i4) : (List (Int) × Int)) => (bif (decide ((i4 : Int) < (a_g.Succ.length : Int))) then (Option.bind (α := List (Int)) (chk (InB i4 64) (bif (!(x2.getD (i4).toNat false)) then (chk (l3.length + ([i4] : List (Int)).length ≤ room) (some ((l3 ++ ([i4] : List (Int)))))) else (some (l3)))) (fun x9 => ((some (.next (x9, (w64 (i4 + (1 : Int))))))))) else (some (.done l3)))
noncomputable def Q212 (i4 : Int) := ([i4] : List (Int))
noncomputable def Q208 (x2 : List (Bool)) := (fun i => eB (x2.getD i false))
noncomputable def Q209 (a_g : TGraph) : AV := (.int .i64 (a_g.Succ.length : Int))
noncomputable def Q211 (l3 : List (Int)) : AV := (AV.list 1 eI64 (0 : Int) l3 (.own 5004))
noncomputable def Q207 : AV := (AV.list 1 eI64 (0 : Int) ([] : List Int) .exact)
noncomputable def Q214 (x2 : List (Bool)) (l3 : List (Int)) : List (Nat × Own) := [(3, .arr 1 45 64 (Q208 x2)), (5004, .tok 1 3 l3.length)]
noncomputable def Q210 (a_g : TGraph) : List AV := [(AV.list 1 eLI64 [] a_g.Succ .none), (AV.list 1 eLI64 [] a_g.Pred .none)]
noncomputable def Q213 := (⟨[(2, (AV.list 1 eI64 (0 : Int) ([] : List Int) (.own 6002)))], [(6002, .tok 1 3 (([] : List Int).length))], []⟩ : St)
noncomputable def m_pdom_Shut (a_g : TGraph) : Option (List (Int)) :=
  ((m_graph_May a_g).bind fun x1 => (bif (!x1) then (some ([] : List Int)) else ((m_pdom_leadingOut a_g).bind fun x2 => ((loopO (S := (List (Int) × Int)) (X := List (Int)) (m_pdom_Shut_L1 a_g x2) (([] : List Int), (0 : Int))).bind (fun x11 => ((some x11)))))))
theorem ok_pdom_Shut (a_g : TGraph) (r : List (Int)) (h : m_pdom_Shut a_g = some r) : Spec Try.prog 14 [(.agg (eTGraph a_g))] [] (AV.list 1 eI64 (0 : Int) r (.own 20000)) [(20000, .tok 1 3 r.length)] := by
  refine spec_of_awp (fn := Try.f14) Try.func14 rfl rfl (by kernel_rfl) (fun Γ hn hΓ => ?_)
  have hn : Γ.n = 27 := hn
  unfold m_pdom_Shut at h
  refine rgs [] [(2, Q207)] (⟨[(1, (.ptr 1 0))], [(1, .row 26 (Q210 a_g))], []⟩ : St) [(AVle (.slice 0 0 (fun _ => []) .exact) Q207)] hn mix (no_hand hΓ) (by kernel_rfl) ⟨av_nil, trivial⟩ ?_
  refine awp_seq ?_
  obtain ⟨x1, hx1, h⟩ := bind_some h
  refine rgs [⟨[], [], (.bool x1), [], []⟩] [] (⟨[(1, (.ptr 1 0)), (8, (.bool (!x1)))], [(1, .row 26 (Q210 a_g))], []⟩ : St) [(Spec Try.prog 22 [(.agg (eTGraph a_g))] [] (.bool x1) [])] hn mix (no_hand hΓ) (by kernel_rfl) ⟨(ok_graph_May a_g x1 hx1), trivial⟩ ?_
  refine awp_cond (!x1) (by kernel_rfl) (fun hb => ?_) (fun hb => ?_)
  · replace h := cond_t hb h
    clear hb
    refine rgs [] [(2, Q207)] (⟨[(2, Q207)], [], []⟩ : St) [(AVle (.slice 0 0 (fun _ => []) .exact) Q207)] hn mix (no_hand hΓ) (by kernel_rfl) ⟨av_nil, trivial⟩ ?_
    refine awp_le (st' := Q213) (Le.trans (le_restrict_eq (st' := (⟨[(2, Q207)], [], []⟩ : St)) [2] [] (by kernel_rfl) (no_hand hΓ)) (Le.trans (le_tag (t := 2) (nm := 6002) (sz' := 1) (fun i => eI64 (([] : List Int).getD i (0 : Int))) 3 rfl rfl (.inl ⟨rfl, rfl⟩) (fun h_ => absurd h_ (by decide))) (le_restrict_eq (st' := Q213) [2] [6002] (by kernel_rfl) (no_hand hΓ)))) ?_
    refine awp_ret ?_
    refine then_ret ?_
    obtain rfl := Option.some.inj h
    exact ⟨.inl rfl, [(6002, 20000)], by kernel_rfl⟩
  · replace h := cond_f hb h
    clear hb
    refine awp_skip ?_
    refine then_normal ?_
    obtain ⟨x2, hx2, h⟩ := bind_some h
    refine rgs [⟨[], [], (.agg (eA64B x2)), [], []⟩] [(3, (.vpt 3 64 0 0))] (⟨[(1, (.ptr 1 0)), (3, (.vpt 3 64 0 0))], [(1, .row 26 (Q210 a_g)), (3, .arr 1 45 64 (fun i_ => AV.eraseAll (fun n_ => memB n_ [1, 3]) ((fun i_ => (((eA64B x2)).drop (i_ * 1)).take 1) i_)))], []⟩ : St) [(Spec Try.prog 24 [(.agg (eTGraph a_g))] [] (.agg (eA64B x2)) []), (64 = 64)] hn mix (no_hand hΓ) (by kernel_rfl) ⟨(ok_pdom_leadingOut a_g x2 hx2), rfl, trivial⟩ ?_
    refine awp_le (le_of (st' := (⟨[(1, (.ptr 1 0)), (3, (.vpt 3 64 0 0))], [(1, .row 26 (Q210 a_g)), (3, .arr 1 45 64 (Q208 x2))], []⟩ : St)) (TmpsLe.refl _) (.same (.arr (leL_of_eq rfl (fun k_ hk_ => (congrArg (AV.eraseAll (fun n_ => memB n_ [1, 3])) ((flat_chunk (n := 64) (sz := 1) (f := (Q208 x2)) (fun _ _ => rfl)) k_ hk_)).trans rfl)) .nil))) ?_
    refine rgs [] [(4, Q207)] (⟨[(1, (.ptr 1 0)), (3, (.vpt 3 64 0 0)), (4, Q207)], [(1, .row 26 (Q210 a_g)), (3, .arr 1 45 64 (Q208 x2))], []⟩ : St) [(AVle (.slice 0 0 (fun _ => []) .exact) Q207)] hn mix (no_hand hΓ) (by kernel_rfl) ⟨av_nil, trivial⟩ ?_
    refine awp_seq ?_
    refine rgs0 (⟨[(3, (.vpt 3 64 0 0)), (4, Q207), (13, (Q209 a_g)), (14, (.int .i64 (0 : Int)))], [(3, .arr 1 45 64 (Q208 x2))], []⟩ : St) hn mix (no_hand hΓ) (by kernel_rfl) ?_
    refine awp_block ?_
    refine awp_le (st' := (fun ((l3, i4) : (List (Int) × Int)) => (⟨[(3, (.vpt 3 64 0 0)), (4, (Q211 l3)), (13, (Q209 a_g)), (14, (.int .i64 i4))], (Q214 x2 l3), []⟩ : St)) (([] : List Int), (0 : Int))) (Le.trans (le_restrict_eq (st' := (⟨[(3, (.vpt 3 64 0 0)), (4, Q207), (13, (Q209 a_g)), (14, (.int .i64 (0 : Int)))], [(3, .arr 1 45 64 (Q208 x2))], []⟩ : St)) [3, 4, 13, 14] [3] (by kernel_rfl) (no_hand hΓ)) (Le.trans (le_tag (t := 4) (nm := 5004) (sz' := 1) (fun i => eI64 (([] : List Int).getD i (0 : Int))) 3 rfl rfl (.inl ⟨rfl, rfl⟩) (fun h_ => absurd h_ (by decide))) (le_restrict_eq (st' := (⟨[(3, (.vpt 3 64 0 0)), (4, (AV.list 1 eI64 (0 : Int) ([] : List Int) (.own 5004))), (13, (Q209 a_g)), (14, (.int .i64 (0 : Int)))], [(3, .arr 1 45 64 (Q208 x2)), (5004, .tok 1 3 (([] : List Int).length))], []⟩ : St)) [3, 4, 13, 14] [3, 5004] (by kernel_rfl) (no_hand hΓ)))) ?_
    obtain ⟨x11, hx11, h⟩ := bind_some h
    refine awp_loop (fun ((l3, i4) : (List (Int) × Int)) => (⟨[(3, (.vpt 3 64 0 0)), (4, (Q211 l3)), (13, (Q209 a_g)), (14, (.int .i64 i4))], (Q214 x2 l3), []⟩ : St)) _ (fun (l5 : List (Int)) (e : Exit) (st : St) => e = (.exit 0) ∧ Le Γ st (⟨[(4, (AV.list 1 eI64 (0 : Int) l5 (.own 5004)))], [(5004, .tok 1 3 l5.length)], []⟩ : St)) ?_ hx11 ?_
    · rintro ⟨l3, i4⟩ y h
      unfold m_pdom_Shut_L1 at h
      refine rgs0 (⟨[(3, (.vpt 3 64 0 0)), (4, (Q211 l3)), (13, (Q209 a_g)), (14, (.int .i64 i4)), (15, (.bool (decide ((i4 : Int) < (a_g.Succ.length : Int)))))], (Q214 x2 l3), []⟩ : St) hn mix (no_hand hΓ) (by kernel_rfl) ?_
      refine awp_seq ?_
      refine awp_cond (decide ((i4 : Int) < (a_g.Succ.length : Int))) (by kernel_rfl) (fun hb => ?_) (fun hb => ?_)
      · replace h := cond_t hb h
        clear hb
        refine awp_skip ?_
        refine then_normal ?_
        refine awp_seq ?_
        obtain ⟨x9, hx9, h⟩ := bind_some h
        refine awp_join (fun (l6 : List (Int)) (e : Exit) (st : St) => e = .normal ∧ Le Γ st (⟨[(3, (.vpt 3 64 0 0)), (4, (AV.list 1 eI64 (0 : Int) l6 (.own 5004))), (13, (Q209 a_g)), (14, (.int .i64 i4))], [(3, .arr 1 45 64 (Q208 x2)), (5004, .tok 1 3 l6.length)], []⟩ : St)) hx9 ?_ ?_
        · clear h hx9
          intro y h
          refine awp_block ?_
          refine rgs0 (⟨[(3, (.vpt 3 64 0 0)), (4, (Q211 l3)), (5, (.int .i64 i4)), (13, (Q209 a_g)), (14, (.int .i64 i4))], (Q214 x2 l3), []⟩ : St) hn mix (no_hand hΓ) (by kernel_rfl) ?_
          obtain ⟨hc7, h⟩ := chk_some h
          refine rgs [] [] (⟨[(3, (.vpt 3 64 0 0)), (4, (Q211 l3)), (5, (.int .i64 i4)), (13, (Q209 a_g)), (14, (.int .i64 i4)), (20, (.bool (!(x2.getD (i4).toNat false))))], (Q214 x2 l3), []⟩ : St) [(InB i4 64), (64 = 64)] hn mix (no_hand hΓ) (by kernel_rfl) ⟨hc7, rfl, trivial⟩ ?_
          refine awp_cond (!(x2.getD (i4).toNat false)) (by kernel_rfl) (fun hb => ?_) (fun hb => ?_)
          · replace h := cond_t hb h
            clear hb
            obtain ⟨hc8, h⟩ := chk_some h
            refine rg [] [(23, (AV.list 1 eI64 (0 : Int) (Q212 i4) .exact)), (24, (AV.list 1 eI64 (0 : Int) (l3 ++ (Q212 i4)) (.own 5004)))] (⟨[(3, (.vpt 3 64 0 0)), (4, (AV.list 1 eI64 (0 : Int) (l3 ++ (Q212 i4)) (.own 5004))), (13, (Q209 a_g)), (14, (.int .i64 i4))], [(3, .arr 1 45 64 (Q208 x2)), (5004, .tok 1 3 ((l3 ++ (Q212 i4)).length))], []⟩ : St) [(AVle (.slice 1 1 (fun i => ([[(.int .i64 i4)]] : List (List AV)).getD i []) .exact) (AV.list 1 eI64 (0 : Int) (Q212 i4) .exact)), (l3.length = l3.length), (l3.length + (Q212 i4).length ≤ room), (AVle (.slice 1 (l3.length + (Q212 i4).length) (appF l3.length (fun i => eI64 (l3.getD i (0 : Int))) (fun i => eI64 ((Q212 i4).getD i (0 : Int)))) (.own 5004)) (AV.list 1 eI64 (0 : Int) (l3 ++ (Q212 i4)) (.own 5004))), (l3.length + (Q212 i4).length = (l3 ++ (Q212 i4)).length)] hn mix (no_hand hΓ) (by kernel_rfl) ⟨(av_lit rfl (fun i hi => map_get (e := eI64) (d := (0 : Int)) (Q212 i4) i hi)), rfl, hc8, av_app, (len_app _ _), trivial⟩ ?_
            refine block_normal ?_
            obtain rfl := Option.some.inj h
            exact ⟨rfl, Le.refl _ _⟩
          · replace h := cond_f hb h
            clear hb
            refine awp_skip ?_
            refine block_normal ?_
            obtain rfl := Option.some.inj h
            exact ⟨rfl, le_restrict_eq [3, 4, 13, 14] [3, 5004] (by kernel_rfl) (no_hand hΓ)⟩
        · clear hx9
          rintro e st' ⟨rfl, hl10⟩
          refine then_normal ?_
          refine awp_le hl10 ?_
          refine rg0 (⟨[(3, (.vpt 3 64 0 0)), (4, (AV.list 1 eI64 (0 : Int) x9 (.own 5004))), (13, (Q209 a_g)), (14, (.int .i64 (w64 (i4 + (1 : Int)))))], [(3, .arr 1 45 64 (Q208 x2)), (5004, .tok 1 3 x9.length)], []⟩ : St) hn mix (no_hand hΓ) (by kernel_rfl) ?_
          obtain rfl := Option.some.inj h
          exact ⟨rfl, Le.refl _ _⟩
      · replace h := cond_f hb h
        clear hb
        refine awp_exit ?_
        refine then_exit ?_
        obtain rfl := Option.some.inj h
        exact ⟨(by intro hh; cases hh), rfl, le_restrict_eq [4] [5004] (by kernel_rfl) (no_hand hΓ)⟩
    · clear hx11
      rintro e st' ⟨rfl, hl12⟩
      refine block_here ?_
      refine then_normal ?_
      refine awp_le hl12 ?_
      refine rgs0 (⟨[(2, (AV.list 1 eI64 (0 : Int) x11 (.own 5004)))], [(5004, .tok 1 3 x11.length)], []⟩ : St) hn mix (no_hand hΓ) (by kernel_rfl) ?_
      refine awp_ret ?_
      obtain rfl := Option.some.inj h
      exact ⟨.inl rfl, [(5004, 20000)], by kernel_rfl⟩

noncomputable def Q215 (x1 : (TGraph × Int)) (x2 : (TGraph × Int)) := (bif (bif (bif ((x1.2 : Int) == (0 : Int)) then ((x2.2 : Int) == (0 : Int)) else false) then (((x2.1.Succ.length : Int) : Int) == (5 : Int)) else false) then ((((x2.1.Succ.getD ((3 : Int)).toNat []).length : Int) : Int) == (1 : Int)) else false)
noncomputable def Q225 (x1 : (TGraph × Int)) (x2 : (TGraph × Int)) := ((Q215 x1 x2) == true)
noncomputable def Q216 (x2 : (TGraph × Int)) := ((((x2.1.Succ.getD ((3 : Int)).toNat []).getD ((0 : Int)).toNat (0 : Int)) : Int) == (4 : Int))
noncomputable def Q223 (x1 : (TGraph × Int)) (x2 : (TGraph × Int)) (x7 : Bool) := (bif (bif (Q215 x1 x2) then (Q216 x2) else false) then x7 else false)
noncomputable def Q226 (x1 : (TGraph × Int)) (x2 : (TGraph × Int)) (x7 : Bool) (x8 : Bool) := ((bif (Q223 x1 x2 x7) then x8 else false) == true)
noncomputable def Q224 (x1 : (TGraph × Int)) (x2 : (TGraph × Int)) := ((bif (Q215 x1 x2) then (Q216 x2) else false) == true)
noncomputable def Q221 : AV := (AV.list 1 eI64 (0 : Int) ([(3 : Int)] : List (Int)) .exact)
noncomputable def Q220 := ([(3 : Int), (3 : Int), (3 : Int), (4 : Int), (-1 : Int)] : List (Int))
noncomputable def Q222 (x1 : (TGraph × Int)) : List AV := [(AV.list 1 eLI64 [] x1.1.Succ .none), (AV.list 1 eLI64 [] x1.1.Pred .none)]
noncomputable def Q218 (x1 : (TGraph × Int)) (x2 : (TGraph × Int)) := ((bif ((x1.2 : Int) == (0 : Int)) then ((x2.2 : Int) == (0 : Int)) else false) == true)
noncomputable def Q219 := ([([(1 : Int), (2 : Int)] : List (Int)), ([(3 : Int)] : List (Int)), ([(3 : Int)] : List (Int)), ([] : List Int)] : List (List (Int)))
noncomputable def Q217 (x1 : (TGraph × Int)) (x2 : (TGraph × Int)) := ((bif (bif ((x1.2 : Int) == (0 : Int)) then ((x2.2 : Int) == (0 : Int)) else false) then (((x2.1.Succ.length : Int) : Int) == (5 : Int)) else false) == true)
noncomputable def m_locksteplaw08_awake  : Option Bool :=
  ((m_graph_Make ([([(1 : Int), (2 : Int)] : List (Int)), ([(3 : Int)] : List (Int)), ([(3 : Int)] : List (Int)), ([] : List Int)] : List (List (Int)))).bind fun x1 => ((m_pdom_Exit x1.1).bind fun x2 => ((m_pdom_Tree x1.1).bind fun x3 => (chk (((bif (bif ((x1.2 : Int) == (0 : Int)) then ((x2.2 : Int) == (0 : Int)) else false) then (((x2.1.Succ.length : Int) : Int) == (5 : Int)) else false) == true) = true → (InB (3 : Int) x2.1.Succ.length)) (chk (((bif (bif (bif ((x1.2 : Int) == (0 : Int)) then ((x2.2 : Int) == (0 : Int)) else false) then (((x2.1.Succ.length : Int) : Int) == (5 : Int)) else false) then ((((x2.1.Succ.getD ((3 : Int)).toNat []).length : Int) : Int) == (1 : Int)) else false) == true) = true → (InB (3 : Int) x2.1.Succ.length)) (chk (((bif (bif (bif ((x1.2 : Int) == (0 : Int)) then ((x2.2 : Int) == (0 : Int)) else false) then (((x2.1.Succ.length : Int) : Int) == (5 : Int)) else false) then ((((x2.1.Succ.getD ((3 : Int)).toNat []).length : Int) : Int) == (1 : Int)) else false) == true) = true → (InB (0 : Int) (x2.1.Succ.getD ((3 : Int)).toNat []).length)) ((bif ((bif (bif (bif (bif ((x1.2 : Int) == (0 : Int)) then ((x2.2 : Int) == (0 : Int)) else false) then (((x2.1.Succ.length : Int) : Int) == (5 : Int)) else false) then ((((x2.1.Succ.getD ((3 : Int)).toNat []).length : Int) : Int) == (1 : Int)) else false) then ((((x2.1.Succ.getD ((3 : Int)).toNat []).getD ((0 : Int)).toNat (0 : Int)) : Int) == (4 : Int)) else false) == true) then m_lockstepref02_Ints x3 ([(3 : Int), (3 : Int), (3 : Int), (4 : Int), (-1 : Int)] : List (Int)) else some false).bind fun x7 => ((bif ((bif (bif (bif (bif (bif ((x1.2 : Int) == (0 : Int)) then ((x2.2 : Int) == (0 : Int)) else false) then (((x2.1.Succ.length : Int) : Int) == (5 : Int)) else false) then ((((x2.1.Succ.getD ((3 : Int)).toNat []).length : Int) : Int) == (1 : Int)) else false) then ((((x2.1.Succ.getD ((3 : Int)).toNat []).getD ((0 : Int)).toNat (0 : Int)) : Int) == (4 : Int)) else false) then x7 else false) == true) then m_pdom_Over x3 (3 : Int) (0 : Int) else some false).bind fun x8 => ((bif ((bif (bif (bif (bif (bif (bif ((x1.2 : Int) == (0 : Int)) then ((x2.2 : Int) == (0 : Int)) else false) then (((x2.1.Succ.length : Int) : Int) == (5 : Int)) else false) then ((((x2.1.Succ.getD ((3 : Int)).toNat []).length : Int) : Int) == (1 : Int)) else false) then ((((x2.1.Succ.getD ((3 : Int)).toNat []).getD ((0 : Int)).toNat (0 : Int)) : Int) == (4 : Int)) else false) then x7 else false) then x8 else false) == true) then m_pdom_Shut x1.1 else some []).bind fun x9 => (some (bif (bif (bif (bif (bif (bif (bif ((x1.2 : Int) == (0 : Int)) then ((x2.2 : Int) == (0 : Int)) else false) then (((x2.1.Succ.length : Int) : Int) == (5 : Int)) else false) then ((((x2.1.Succ.getD ((3 : Int)).toNat []).length : Int) : Int) == (1 : Int)) else false) then ((((x2.1.Succ.getD ((3 : Int)).toNat []).getD ((0 : Int)).toNat (0 : Int)) : Int) == (4 : Int)) else false) then x7 else false) then x8 else false) then (((x9.length : Int) : Int) == (0 : Int)) else false)))))))))))
theorem ok_locksteplaw08_awake  (r : Bool) (h : m_locksteplaw08_awake = some r) : Spec Try.prog 7 [] [] (.bool r) [] := by
  refine spec_of_awp (fn := Try.f7) Try.func7 rfl rfl (by kernel_rfl) (fun Γ hn hΓ => ?_)
  have hn : Γ.n = 65 := hn
  unfold m_locksteplaw08_awake at h
  refine rgs0 (⟨[], [], []⟩ : St) hn mix (no_hand hΓ) (by kernel_rfl) ?_
  obtain ⟨x1, hx1, h⟩ := bind_some h
  refine rgs [⟨[], [], (.tuple [(.agg (eTGraph x1.1)), (.int .i64 x1.2)]), [], []⟩] [(7, (AV.list 1 eI64 (0 : Int) ([(1 : Int), (2 : Int)] : List (Int)) .exact)), (8, Q221), (9, Q221), (10, (AV.list 1 eLI64 [] Q219 .exact))] (⟨[(1, (.ptr 1 0)), (2, (.int .i64 x1.2))], [(1, .row 26 (Q222 x1))], []⟩ : St) [(AVle (.slice 1 2 (fun i => ([[(.int .i64 (1 : Int))], [(.int .i64 (2 : Int))]] : List (List AV)).getD i []) .exact) (AV.list 1 eI64 (0 : Int) ([(1 : Int), (2 : Int)] : List (Int)) .exact)), (AVle (.slice 1 1 (fun i => ([[(.int .i64 (3 : Int))]] : List (List AV)).getD i []) .exact) Q221), (AVle (.slice 1 1 (fun i => ([[(.int .i64 (3 : Int))]] : List (List AV)).getD i []) .exact) Q221), (AVle (.slice 1 4 (fun i => ([[(AV.list 1 eI64 (0 : Int) ([(1 : Int), (2 : Int)] : List (Int)) .none)], [(AV.list 1 eI64 (0 : Int) ([(3 : Int)] : List (Int)) .none)], [(AV.list 1 eI64 (0 : Int) ([(3 : Int)] : List (Int)) .none)], [(.slice 0 0 (fun _ => []) .none)]] : List (List AV)).getD i []) .exact) (AV.list 1 eLI64 [] Q219 .exact)), (Spec Try.prog 9 [(AV.list 1 eLI64 [] Q219 .none)] [] (.tuple [(.agg (eTGraph x1.1)), (.int .i64 x1.2)]) [])] hn mix (no_hand hΓ) (by kernel_rfl) ⟨(av_lit rfl (fun i hi => map_get (e := eI64) (d := (0 : Int)) ([(1 : Int), (2 : Int)] : List (Int)) i hi)), (av_lit rfl (fun i hi => map_get (e := eI64) (d := (0 : Int)) ([(3 : Int)] : List (Int)) i hi)), (av_lit rfl (fun i hi => map_get (e := eI64) (d := (0 : Int)) ([(3 : Int)] : List (Int)) i hi)), (av_litL (e := eLI64) (d := []) rfl (lit_cons (.cons (AVle.refl _) .nil) (lit_cons (.cons (AVle.refl _) .nil) (lit_cons (.cons (AVle.refl _) .nil) (lit_cons (.cons av_nil0 .nil) (lit_nil rfl))))) (fun _ => rfl)), (ok_graph_Make Q219 x1 hx1), trivial⟩ ?_
  obtain ⟨x2, hx2, h⟩ := bind_some h
  refine rgs [⟨[], [], (.tuple [(.agg (eTGraph x2.1)), (.int .i64 x2.2)]), [], []⟩] [] (⟨[(1, (.ptr 1 0)), (2, (.int .i64 x1.2)), (3, (.ptr 3 0)), (4, (.int .i64 x2.2))], [(1, .row 26 (Q222 x1)), (3, .row 26 [(AV.list 1 eLI64 [] x2.1.Succ .none), (AV.list 1 eLI64 [] x2.1.Pred .none)])], []⟩ : St) [(Spec Try.prog 11 [(.agg (eTGraph x1.1))] [] (.tuple [(.agg (eTGraph x2.1)), (.int .i64 x2.2)]) [])] hn mix (no_hand hΓ) (by kernel_rfl) ⟨(ok_pdom_Exit x1.1 x2 hx2), trivial⟩ ?_
  obtain ⟨x3, hx3, h⟩ := bind_some h
  refine rgs [⟨[], [(20000, 20)], (AV.list 1 eI64 (0 : Int) x3 (.own 20000)), [(20000, .tok 1 3 x3.length)], []⟩] [] (⟨[(1, (.ptr 1 0)), (2, (.int .i64 x1.2)), (3, (.ptr 3 0)), (4, (.int .i64 x2.2)), (5, (AV.list 1 eI64 (0 : Int) x3 (.own 20)))], [(1, .row 26 (Q222 x1)), (3, .row 26 [(AV.list 1 eLI64 [] x2.1.Succ .none), (AV.list 1 eLI64 [] x2.1.Pred .none)]), (20, .tok 1 3 x3.length)], []⟩ : St) [(Spec Try.prog 10 [(.agg (eTGraph x1.1))] [] (AV.list 1 eI64 (0 : Int) x3 (.own 20000)) [(20000, .tok 1 3 x3.length)])] hn mix (no_hand hΓ) (by kernel_rfl) ⟨(ok_pdom_Tree x1.1 x3 hx3), trivial⟩ ?_
  obtain ⟨hc4, h⟩ := chk_some h
  obtain ⟨hc5, h⟩ := chk_some h
  obtain ⟨hc6, h⟩ := chk_some h
  obtain ⟨x7, hx7, h⟩ := bind_some h
  obtain ⟨x8, hx8, h⟩ := bind_some h
  obtain ⟨x9, hx9, h⟩ := bind_some h
  refine rgs [⟨[], [], (.bool x7), [], []⟩, ⟨[], [], (.bool x8), [], []⟩, ⟨[], [], (AV.list 1 eI64 (0 : Int) x9 .none), [], []⟩] [(52, (AV.list 1 eI64 (0 : Int) Q220 .exact))] (⟨[(0, (.bool (bif (bif (Q223 x1 x2 x7) then x8 else false) then (((x9.length : Int) : Int) == (0 : Int)) else false)))], [], []⟩ : St) [((((x1.2 : Int) == (0 : Int)) == true) = true → (((x1.2 : Int) == (0 : Int)) == true) = true), (((x1.2 : Int) == (0 : Int)) = true → (((x1.2 : Int) == (0 : Int)) == true) = true), ((Q218 x1 x2) = true → (Q218 x1 x2) = true), ((Q218 x1 x2) = true → (Q218 x1 x2) = true), ((Q218 x1 x2) = true → (Q218 x1 x2) = true), ((bif ((x1.2 : Int) == (0 : Int)) then ((x2.2 : Int) == (0 : Int)) else false) = true → (Q218 x1 x2) = true), ((Q217 x1 x2) = true → (Q217 x1 x2) = true), ((Q217 x1 x2) = true → (Q217 x1 x2) = true), ((Q217 x1 x2) = true → (InB (3 : Int) x2.1.Succ.length)), ((Q217 x1 x2) = true → (Q217 x1 x2) = true), ((Q217 x1 x2) = true → (Q217 x1 x2) = true), ((Q217 x1 x2) = true → (Q217 x1 x2) = true), ((bif (bif ((x1.2 : Int) == (0 : Int)) then ((x2.2 : Int) == (0 : Int)) else false) then (((x2.1.Succ.length : Int) : Int) == (5 : Int)) else false) = true → (Q217 x1 x2) = true), ((Q225 x1 x2) = true → (Q225 x1 x2) = true), ((Q225 x1 x2) = true → (Q225 x1 x2) = true), ((Q225 x1 x2) = true → (InB (3 : Int) x2.1.Succ.length)), ((Q225 x1 x2) = true → (Q225 x1 x2) = true), ((Q225 x1 x2) = true → (Q225 x1 x2) = true), ((Q225 x1 x2) = true → (InB (0 : Int) (x2.1.Succ.getD ((3 : Int)).toNat []).length)), ((Q225 x1 x2) = true → (Q225 x1 x2) = true), ((Q225 x1 x2) = true → (Q225 x1 x2) = true), ((Q215 x1 x2) = true → (Q225 x1 x2) = true), ((Q224 x1 x2) = true → (AVle (.slice 1 5 (fun i => ([[(.int .i64 (3 : Int))], [(.int .i64 (3 : Int))], [(.int .i64 (3 : Int))], [(.int .i64 (4 : Int))], [(.int .i64 (-1 : Int))]] : List (List AV)).getD i []) .exact) (AV.list 1 eI64 (0 : Int) Q220 .exact))), ((Q224 x1 x2) = true → (Q224 x1 x2) = true), ((Q224 x1 x2) = true → (Q224 x1 x2) = true), ((Q224 x1 x2) = true → (Spec Try.prog 16 [(AV.list 1 eI64 (0 : Int) x3 .none), (AV.list 1 eI64 (0 : Int) Q220 .none)] [] (.bool x7) [])), ((bif (Q215 x1 x2) then (Q216 x2) else false) = true → (Q224 x1 x2) = true), (((Q223 x1 x2 x7) == true) = true → ((Q223 x1 x2 x7) == true) = true), (((Q223 x1 x2 x7) == true) = true → (Spec Try.prog 13 [(AV.list 1 eI64 (0 : Int) x3 .none), (.int .i64 (3 : Int)), (.int .i64 (0 : Int))] [] (.bool x8) [])), ((Q223 x1 x2 x7) = true → ((Q223 x1 x2 x7) == true) = true), ((Q226 x1 x2 x7 x8) = true → (Q226 x1 x2 x7 x8) = true), ((Q226 x1 x2 x7 x8) = true → (Spec Try.prog 14 [(.agg (eTGraph x1.1))] [] (AV.list 1 eI64 (0 : Int) x9 .none) [])), ((Q226 x1 x2 x7 x8) = true → (Q226 x1 x2 x7 x8) = true), ((Q226 x1 x2 x7 x8) = true → (Q226 x1 x2 x7 x8) = true), ((bif (Q223 x1 x2 x7) then x8 else false) = true → (Q226 x1 x2 x7 x8) = true)] hn mix (no_hand hΓ) (by kernel_rfl) ⟨(fun hg => hg), gT, (fun hg => hg), (fun hg => hg), (fun hg => hg), gT, (fun hg => hg), (fun hg => hg), (fun hg => (hc4 hg)), (fun hg => hg), (fun hg => hg), (fun hg => hg), gT, (fun hg => hg), (fun hg => hg), (fun hg => (hc5 hg)), (fun hg => hg), (fun hg => hg), (fun hg => (hc6 hg)), (fun hg => hg), (fun hg => hg), gT, (fun hg => (av_lit rfl (fun i hi => map_get (e := eI64) (d := (0 : Int)) Q220 i hi))), (fun hg => hg), (fun hg => hg), (fun hg => (ok_lockstepref02_Ints x3 Q220 x7 (cond_t hg hx7))), gT, (fun hg => hg), (fun hg => (ok_pdom_Over x3 (3 : Int) (0 : Int) x8 (cond_t hg hx8))), gT, (fun hg => hg), (fun hg => (Spec.drop (ok_pdom_Shut x1.1 x9 (cond_t hg hx9)))), (fun hg => hg), (fun hg => hg), gT, trivial⟩ ?_
  refine awp_ret ?_
  obtain rfl := Option.some.inj h
  exact ⟨.inl rfl, [], by kernel_rfl⟩

noncomputable def m_lockstepref06_Small_L1 (a_succ : List (List (Int))) : Int → Option (LR Int (Unit ⊕ Bool)) :=
  fun (i1 : Int) => (bif (decide ((i1 : Int) < (a_succ.length : Int))) then (chk (InB i1 a_succ.length) (bif (bif (decide (((100 : Int) : Int) < ((a_succ.getD (i1).toNat []).length : Int))) then true else (decide (((100 : Int) : Int) < i1))) then (some (.done (.inr false))) else (some (.next (w64 (i1 + (1 : Int))))))) else (some (.done (.inl ()))))
noncomputable def Q228 (a_succ : List (List (Int))) : AV := (AV.list 1 eLI64 [] a_succ .none)
noncomputable def Q227 (a_succ : List (List (Int))) (i1 : Int) := (decide (((100 : Int) : Int) < ((a_succ.getD (i1).toNat []).length : Int)))
noncomputable def m_lockstepref06_Small (a_succ : List (List (Int))) : Option Bool :=
  ((loopO (S := Int) (X := (Unit ⊕ Bool)) (m_lockstepref06_Small_L1 a_succ) (0 : Int)).bind (fun x3 => (match x3 with | (.inl _) => (some true) | (.inr r5) => (some r5))))
theorem ok_lockstepref06_Small (a_succ : List (List (Int))) (r : Bool) (h : m_lockstepref06_Small a_succ = some r) : Spec Try.prog 8 [(AV.list 1 eLI64 [] a_succ .none)] [] (.bool r) [] := by
  refine spec_of_awp (fn := Try.f8) Try.func8 rfl rfl (by kernel_rfl) (fun Γ hn hΓ => ?_)
  have hn : Γ.n = 20 := hn
  unfold m_lockstepref06_Small at h
  refine rgs0 (⟨[(0, (Q228 a_succ))], [], []⟩ : St) hn mix (no_hand hΓ) (by kernel_rfl) ?_
  refine awp_seq ?_
  refine rgs0 (⟨[(0, (Q228 a_succ)), (3, (.int .i64 (0 : Int)))], [], []⟩ : St) hn mix (no_hand hΓ) (by kernel_rfl) ?_
  refine awp_block ?_
  refine awp_le (st' := (fun (i1 : Int) => (⟨[(0, (Q228 a_succ)), (3, (.int .i64 i1))], [], []⟩ : St)) (0 : Int)) (Le.refl _ _) ?_
  obtain ⟨x3, hx3, h⟩ := bind_some h
  refine awp_loop (fun (i1 : Int) => (⟨[(0, (Q228 a_succ)), (3, (.int .i64 i1))], [], []⟩ : St)) _ (fun (x_ : (Unit ⊕ Bool)) (e : Exit) (st : St) => match x_ with | (.inl _) => e = (.exit 0) ∧ Le Γ st (⟨[], [], []⟩ : St) | (.inr r_) => e = .ret ∧ retK Try.prog Try.f8.results.toList [] (.bool r_) [] e st) ?_ hx3 ?_
  · intro i1 y h
    unfold m_lockstepref06_Small_L1 at h
    refine awp_seq ?_
    refine rgs0 (⟨[(0, (Q228 a_succ)), (3, (.int .i64 i1)), (7, (.bool (decide ((i1 : Int) < (a_succ.length : Int)))))], [], []⟩ : St) hn mix (no_hand hΓ) (by kernel_rfl) ?_
    refine awp_cond (decide ((i1 : Int) < (a_succ.length : Int))) (by kernel_rfl) (fun hb => ?_) (fun hb => ?_)
    · replace h := cond_t hb h
      clear hb
      refine awp_skip ?_
      refine then_normal ?_
      refine awp_seq ?_
      refine awp_block ?_
      obtain ⟨hc2, h⟩ := chk_some h
      refine rgs [] [] (⟨[(0, (Q228 a_succ)), (3, (.int .i64 i1)), (19, (.bool (bif (Q227 a_succ i1) then true else (decide (((100 : Int) : Int) < i1)))))], [], []⟩ : St) [(InB i1 a_succ.length), (((Q227 a_succ i1) == false) = true → ((Q227 a_succ i1) == false) = true), ((Q227 a_succ i1) = false → ((Q227 a_succ i1) == false) = true)] hn mix (no_hand hΓ) (by kernel_rfl) ⟨hc2, (fun hg => hg), gF, trivial⟩ ?_
      refine awp_cond (bif (Q227 a_succ i1) then true else (decide (((100 : Int) : Int) < i1))) (by kernel_rfl) (fun hb => ?_) (fun hb => ?_)
      · replace h := cond_t hb h
        clear hb
        refine rgs0 (⟨[(2, (.bool false))], [], []⟩ : St) hn mix (no_hand hΓ) (by kernel_rfl) ?_
        refine awp_ret ?_
        refine block_ret ?_
        refine then_ret ?_
        obtain rfl := Option.some.inj h
        exact ⟨(by intro hh; cases hh), rfl, ⟨.inl rfl, [], by kernel_rfl⟩⟩
      · replace h := cond_f hb h
        clear hb
        refine awp_skip ?_
        refine block_normal ?_
        refine then_normal ?_
        refine rg0 (⟨[(0, (Q228 a_succ)), (3, (.int .i64 (w64 (i1 + (1 : Int)))))], [], []⟩ : St) hn mix (no_hand hΓ) (by kernel_rfl) ?_
        obtain rfl := Option.some.inj h
        exact ⟨rfl, Le.refl _ _⟩
    · replace h := cond_f hb h
      clear hb
      refine awp_exit ?_
      refine then_exit ?_
      obtain rfl := Option.some.inj h
      exact ⟨(by intro hh; cases hh), rfl, le_restrict_eq [] [] (by kernel_rfl) (no_hand hΓ)⟩
  · clear hx3
    rcases x3 with _ | r5
    · rintro e st' ⟨rfl, hl4⟩
      refine block_here ?_
      refine then_normal ?_
      refine awp_le hl4 ?_
      refine rgs0 (⟨[(2, (.bool true))], [], []⟩ : St) hn mix (no_hand hΓ) (by kernel_rfl) ?_
      refine awp_ret ?_
      obtain rfl := Option.some.inj h
      exact ⟨.inl rfl, [], by kernel_rfl⟩
    · rintro e st' ⟨rfl, hk⟩
      refine block_ret ?_
      refine then_ret ?_
      obtain rfl := Option.some.inj h
      exact hk

noncomputable def m_lockstepref06_Reach_L1 (a_g : TGraph) (a_p2 : Int) (i6 : Int) : (Int × List (Bool)) → Option (LR (Int × List (Bool)) (List (Bool))) :=
  fun ((i9, l10) : (Int × List (Bool))) => (chk (InB i6 l10.length) (chk (((l10.getD (i6).toNat false) == true) = true → (InB i6 a_g.Succ.length)) (bif (bif (l10.getD (i6).toNat false) then (decide ((i9 : Int) < ((a_g.Succ.getD (i6).toNat []).length : Int))) else false) then (Option.bind (α := List (Bool)) (chk (InB i6 a_g.Succ.length) (chk (InB i9 (a_g.Succ.getD (i6).toNat []).length) (bif ((((a_g.Succ.getD (i6).toNat []).getD (i9).toNat (0 : Int)) : Int) != a_p2) then (chk (InB i6 a_g.Succ.length) (chk (InB i9 (a_g.Succ.getD (i6).toNat []).length) (chk (InB ((a_g.Succ.getD (i6).toNat []).getD (i9).toNat (0 : Int)) l10.length) (some ((l10.set (((a_g.Succ.getD (i6).toNat []).getD (i9).toNat (0 : Int))).toNat true)))))) else (some (l10))))) (fun x20 => ((some (.next ((w64 (i9 + (1 : Int))), x20)))))) else (some (.done l10)))))
noncomputable def m_lockstepref06_Reach_L2 (a_g : TGraph) (a_p2 : Int) : (Int × List (Bool)) → Option (LR (Int × List (Bool)) (List (Bool))) :=
  fun ((i6, l7) : (Int × List (Bool))) => (bif (decide ((i6 : Int) < (l7.length : Int))) then ((loopO (S := (Int × List (Bool))) (X := List (Bool)) (m_lockstepref06_Reach_L1 a_g a_p2 i6) ((0 : Int), l7)).bind (fun x22 => ((some (.next ((w64 (i6 + (1 : Int))), x22)))))) else (some (.done l7)))
noncomputable def m_lockstepref06_Reach_L3 (a_g : TGraph) (a_p2 : Int) : (Int × List (Bool)) → Option (LR (Int × List (Bool)) (List (Bool))) :=
  fun ((i3, l4) : (Int × List (Bool))) => (bif (decide ((i3 : Int) < (l4.length : Int))) then ((loopO (S := (Int × List (Bool))) (X := List (Bool)) (m_lockstepref06_Reach_L2 a_g a_p2) ((0 : Int), l4)).bind (fun x24 => ((some (.next ((w64 (i3 + (1 : Int))), x24)))))) else (some (.done l4)))
noncomputable def Q237 (a_p2 : Int) : AV := (.int .i64 a_p2)
noncomputable def Q240 (a_g : TGraph) := (a_g.Succ.length : Int)
noncomputable def Q230 (a_g : TGraph) := (List.replicate ((Q240 a_g)).toNat false)
noncomputable def Q239 (a_g : TGraph) (a_p1 : Int) := ((Q230 a_g).set (a_p1).toNat true)
noncomputable def Q231 (l10 : List (Bool)) (i6 : Int) := ((l10.getD (i6).toNat false) == true)
noncomputable def Q238 (a_g : TGraph) := (fun i => eB ((Q230 a_g).getD i false))
noncomputable def Q233 (a_g : TGraph) (i6 : Int) (i9 : Int) := ((a_g.Succ.getD (i6).toNat []).getD (i9).toNat (0 : Int))
noncomputable def Q229 (a_g : TGraph) : List AV := [(AV.list 1 eLI64 [] a_g.Succ .none), (AV.list 1 eLI64 [] a_g.Pred .none)]
noncomputable def Q235 (a_g : TGraph) (l4 : List (Bool)) : List (Nat × Own) := [(3, .row 26 (Q229 a_g)), (14, .arr 1 4 l4.length (fun i => eB (l4.getD i false)))]
noncomputable def Q236 (a_g : TGraph) (l7 : List (Bool)) : List (Nat × Own) := [(3, .row 26 (Q229 a_g)), (14, .arr 1 4 l7.length (fun i => eB (l7.getD i false)))]
noncomputable def Q234 (a_g : TGraph) (l10 : List (Bool)) : List (Nat × Own) := [(3, .row 26 (Q229 a_g)), (14, .arr 1 4 l10.length (fun i => eB (l10.getD i false)))]
noncomputable def Q232 (a_p2 : Int) (l10 : List (Bool)) (i3 : Int) (i6 : Int) (i9 : Int) : List (Nat × AV) := [(2, (Q237 a_p2)), (3, (.ptr 3 0)), (7, (.vsl 14 l10.length)), (8, (.int .i64 i3)), (9, (.int .i64 i6)), (10, (.int .i64 i9))]
noncomputable def m_lockstepref06_Reach (a_g : TGraph) (a_p1 : Int) (a_p2 : Int) : Option (List (Bool)) :=
  (chk (0 ≤ (a_g.Succ.length : Int) ∧ (a_g.Succ.length : Int) ≤ (a_g.Succ.length : Int) ∧ (a_g.Succ.length : Int) ≤ (room : Int)) (bif ((a_p1 : Int) == a_p2) then (some (List.replicate ((a_g.Succ.length : Int)).toNat false)) else (chk (InB a_p1 (List.replicate ((a_g.Succ.length : Int)).toNat false).length) ((loopO (S := (Int × List (Bool))) (X := List (Bool)) (m_lockstepref06_Reach_L3 a_g a_p2) ((0 : Int), ((List.replicate ((a_g.Succ.length : Int)).toNat false).set (a_p1).toNat true))).bind (fun x26 => ((some x26)))))))
theorem ok_lockstepref06_Reach (a_g : TGraph) (a_p1 : Int) (a_p2 : Int) (r : List (Bool)) (h : m_lockstepref06_Reach a_g a_p1 a_p2 = some r) : Spec Try.prog 12 [(.agg (eTGraph a_g)), (.int .i64 a_p1), (.int .i64 a_p2)] [] (AV.list 1 eB false r (.own 20000)) [(20000, .tok 1 4 r.length)] := by
  refine spec_of_awp (fn := Try.f12) Try.func12 rfl rfl (by kernel_rfl) (fun Γ hn hΓ => ?_)
  have hn : Γ.n = 71 := hn
  unfold m_lockstepref06_Reach at h
  refine rgs [] [(6, (AV.list 1 eB false ([] : List Bool) .exact))] (⟨[(1, (.int .i64 a_p1)), (2, (Q237 a_p2)), (3, (.ptr 3 0))], [(3, .row 26 (Q229 a_g))], []⟩ : St) [(AVle (.slice 0 0 (fun _ => []) .exact) (AV.list 1 eB false ([] : List Bool) .exact))] hn mix (no_hand hΓ) (by kernel_rfl) ⟨av_nil, trivial⟩ ?_
  obtain ⟨hc1, h⟩ := chk_some h
  refine rgs [] [] (⟨[(1, (.int .i64 a_p1)), (2, (Q237 a_p2)), (3, (.ptr 3 0)), (7, (.vsl 14 ((Q240 a_g)).toNat))], [(3, .row 26 (Q229 a_g)), (14, .arr 1 4 (((Q240 a_g)).toNat) (fun i_ => AV.eraseAll (fun n_ => memB n_ [3, 14]) ((fun _ => [(.bool false)]) i_)))], []⟩ : St) [(0 ≤ (Q240 a_g) ∧ (Q240 a_g) ≤ (Q240 a_g) ∧ (Q240 a_g) ≤ (room : Int))] hn mix (no_hand hΓ) (by kernel_rfl) ⟨hc1, trivial⟩ ?_
  refine awp_le (Le.trans (le_of (st' := (⟨[(1, (.int .i64 a_p1)), (2, (Q237 a_p2)), (3, (.ptr 3 0)), (7, (.vsl 14 ((Q240 a_g)).toNat))], [(3, .row 26 (Q229 a_g)), (14, .arr 1 4 (((Q240 a_g)).toNat) (Q238 a_g))], []⟩ : St)) (TmpsLe.refl _) (.same (.arr (fun k hk => make_le (e := eB) (d := false) (.cons (AVle.refl _) .nil) _ k (repl_lt hk)) .nil))) (le_eq (congrArg (fun k_ : Nat => (⟨[(1, (.int .i64 a_p1)), (2, (Q237 a_p2)), (3, (.ptr 3 0)), (7, (.vsl 14 k_))], [(3, .row 26 (Q229 a_g)), (14, .arr 1 4 k_ (Q238 a_g))], []⟩ : St)) (show ((Q240 a_g)).toNat = (Q230 a_g).length from (List.length_replicate ..).symm)))) ?_
  refine awp_seq ?_
  refine rgs0 (⟨[(1, (.int .i64 a_p1)), (2, (Q237 a_p2)), (3, (.ptr 3 0)), (7, (.vsl 14 (Q230 a_g).length)), (17, (.bool ((a_p1 : Int) == a_p2)))], [(3, .row 26 (Q229 a_g)), (14, .arr 1 4 ((Q230 a_g).length) (Q238 a_g))], []⟩ : St) hn mix (no_hand hΓ) (by kernel_rfl) ?_
  refine awp_cond ((a_p1 : Int) == a_p2) (by kernel_rfl) (fun hb => ?_) (fun hb => ?_)
  · replace h := cond_t hb h
    clear hb
    refine rgs0 (⟨[(6, (.vsl 14 (Q230 a_g).length))], [(14, .arr 1 4 ((Q230 a_g).length) (Q238 a_g))], []⟩ : St) hn mix (no_hand hΓ) (by kernel_rfl) ?_
    refine awp_le (Le.trans (le_freeze (nm := 14) (sz := 1) (n := ((Q230 a_g).length)) (e := 4) (f := (Q238 a_g)) (g := (Q238 a_g)) rfl ⟨rfl, trivial⟩ (fun _ _ => rfl) (by rw [hΓ]; rfl)) (le_eq (st' := (⟨[(6, (AV.list 1 eB false (Q230 a_g) (.own 14)))], [(14, .tok 1 4 ((Q230 a_g).length))], []⟩ : St)) (by kernel_rfl))) ?_
    refine awp_ret ?_
    refine then_ret ?_
    obtain rfl := Option.some.inj h
    exact ⟨.inl rfl, [(14, 20000)], by kernel_rfl⟩
  · replace h := cond_f hb h
    clear hb
    refine awp_skip ?_
    refine then_normal ?_
    obtain ⟨hc2, h⟩ := chk_some h
    refine rgs [] [] (⟨[(2, (Q237 a_p2)), (3, (.ptr 3 0)), (7, (.vsl 14 (Q230 a_g).length))], [(3, .row 26 (Q229 a_g)), (14, .arr 1 4 ((Q230 a_g).length) (fun i_ => AV.eraseAll (fun n_ => memB n_ [3, 14]) ((putF (Q238 a_g) (a_p1).toNat 0 [(.bool true)]) i_)))], []⟩ : St) [(InB a_p1 (Q230 a_g).length), ((Q230 a_g).length = (Q230 a_g).length)] hn mix (no_hand hΓ) (by kernel_rfl) ⟨hc2, rfl, trivial⟩ ?_
    refine awp_le (Le.trans (le_of (st' := (⟨[(2, (Q237 a_p2)), (3, (.ptr 3 0)), (7, (.vsl 14 (Q230 a_g).length))], [(3, .row 26 (Q229 a_g)), (14, .arr 1 4 ((Q230 a_g).length) (fun i => eB ((Q239 a_g a_p1).getD i false)))], []⟩ : St)) (TmpsLe.refl _) (.same (.arr (leL_of_eq (List.length_set ..).symm (fun k_ hk_ => (congrArg (AV.eraseAll (fun n_ => memB n_ [3, 14])) ((putF_set (fun _ _ => rfl) (inB_lt0 hc2) rfl) k_ hk_)).trans rfl)) .nil))) (le_eq (congrArg (fun k_ : Nat => (⟨[(2, (Q237 a_p2)), (3, (.ptr 3 0)), (7, (.vsl 14 k_))], [(3, .row 26 (Q229 a_g)), (14, .arr 1 4 k_ (fun i => eB ((Q239 a_g a_p1).getD i false)))], []⟩ : St)) (show (Q230 a_g).length = (Q239 a_g a_p1).length from (List.length_set ..).symm)))) ?_
    refine awp_seq ?_
    refine rgs0 (⟨[(2, (Q237 a_p2)), (3, (.ptr 3 0)), (7, (.vsl 14 (Q239 a_g a_p1).length)), (8, (.int .i64 (0 : Int)))], [(3, .row 26 (Q229 a_g)), (14, .arr 1 4 ((Q239 a_g a_p1).length) (fun i => eB ((Q239 a_g a_p1).getD i false)))], []⟩ : St) hn mix (no_hand hΓ) (by kernel_rfl) ?_
    refine awp_block ?_
    refine awp_le (st' := (fun ((i3, l4) : (Int × List (Bool))) => (⟨[(2, (Q237 a_p2)), (3, (.ptr 3 0)), (7, (.vsl 14 l4.length)), (8, (.int .i64 i3))], (Q235 a_g l4), []⟩ : St)) ((0 : Int), (Q239 a_g a_p1))) (Le.refl _ _) ?_
    obtain ⟨x26, hx26, h⟩ := bind_some h
    refine awp_loop (fun ((i3, l4) : (Int × List (Bool))) => (⟨[(2, (Q237 a_p2)), (3, (.ptr 3 0)), (7, (.vsl 14 l4.length)), (8, (.int .i64 i3))], (Q235 a_g l4), []⟩ : St)) _ (fun (l5 : List (Bool)) (e : Exit) (st : St) => e = (.exit 0) ∧ Le Γ st (⟨[(7, (.vsl 14 l5.length))], [(14, .arr 1 4 l5.length (fun i => eB (l5.getD i false)))], []⟩ : St)) ?_ hx26 ?_
    · rintro ⟨i3, l4⟩ y h
      unfold m_lockstepref06_Reach_L3 at h
      refine awp_seq ?_
      refine rgs0 (⟨[(2, (Q237 a_p2)), (3, (.ptr 3 0)), (7, (.vsl 14 l4.length)), (8, (.int .i64 i3)), (25, (.bool (decide ((i3 : Int) < (l4.length : Int)))))], (Q235 a_g l4), []⟩ : St) hn mix (no_hand hΓ) (by kernel_rfl) ?_
      refine awp_cond (decide ((i3 : Int) < (l4.length : Int))) (by kernel_rfl) (fun hb => ?_) (fun hb => ?_)
      · replace h := cond_t hb h
        clear hb
        refine awp_skip ?_
        refine then_normal ?_
        refine awp_seq ?_
        refine awp_block ?_
        refine rgs0 (⟨[(2, (Q237 a_p2)), (3, (.ptr 3 0)), (7, (.vsl 14 l4.length)), (8, (.int .i64 i3)), (9, (.int .i64 (0 : Int)))], (Q235 a_g l4), []⟩ : St) hn mix (no_hand hΓ) (by kernel_rfl) ?_
        refine awp_block ?_
        refine awp_le (st' := (fun ((i6, l7) : (Int × List (Bool))) => (⟨[(2, (Q237 a_p2)), (3, (.ptr 3 0)), (7, (.vsl 14 l7.length)), (8, (.int .i64 i3)), (9, (.int .i64 i6))], (Q236 a_g l7), []⟩ : St)) ((0 : Int), l4)) (Le.refl _ _) ?_
        obtain ⟨x24, hx24, h⟩ := bind_some h
        refine awp_loop (fun ((i6, l7) : (Int × List (Bool))) => (⟨[(2, (Q237 a_p2)), (3, (.ptr 3 0)), (7, (.vsl 14 l7.length)), (8, (.int .i64 i3)), (9, (.int .i64 i6))], (Q236 a_g l7), []⟩ : St)) _ (fun (l8 : List (Bool)) (e : Exit) (st : St) => e = (.exit 2) ∧ Le Γ st (⟨[(2, (Q237 a_p2)), (3, (.ptr 3 0)), (7, (.vsl 14 l8.length)), (8, (.int .i64 i3))], [(3, .row 26 (Q229 a_g)), (14, .arr 1 4 l8.length (fun i => eB (l8.getD i false)))], []⟩ : St)) ?_ hx24 ?_
        · rintro ⟨i6, l7⟩ y h
          unfold m_lockstepref06_Reach_L2 at h
          refine awp_seq ?_
          refine rgs0 (⟨[(2, (Q237 a_p2)), (3, (.ptr 3 0)), (7, (.vsl 14 l7.length)), (8, (.int .i64 i3)), (9, (.int .i64 i6)), (31, (.bool (decide ((i6 : Int) < (l7.length : Int)))))], (Q236 a_g l7), []⟩ : St) hn mix (no_hand hΓ) (by kernel_rfl) ?_
          refine awp_cond (decide ((i6 : Int) < (l7.length : Int))) (by kernel_rfl) (fun hb => ?_) (fun hb => ?_)
          · replace h := cond_t hb h
            clear hb
            refine awp_skip ?_
            refine then_normal ?_
            refine awp_seq ?_
            refine awp_block ?_
            refine rgs0 (⟨[(2, (Q237 a_p2)), (3, (.ptr 3 0)), (7, (.vsl 14 l7.length)), (8, (.int .i64 i3)), (9, (.int .i64 i6)), (10, (.int .i64 (0 : Int)))], (Q236 a_g l7), []⟩ : St) hn mix (no_hand hΓ) (by kernel_rfl) ?_
            refine awp_block ?_
            refine awp_le (st' := (fun ((i9, l10) : (Int × List (Bool))) => (⟨(Q232 a_p2 l10 i3 i6 i9), (Q234 a_g l10), []⟩ : St)) ((0 : Int), l7)) (Le.refl _ _) ?_
            obtain ⟨x22, hx22, h⟩ := bind_some h
            refine awp_loop (fun ((i9, l10) : (Int × List (Bool))) => (⟨(Q232 a_p2 l10 i3 i6 i9), (Q234 a_g l10), []⟩ : St)) _ (fun (l11 : List (Bool)) (e : Exit) (st : St) => e = (.exit 4) ∧ Le Γ st (⟨[(2, (Q237 a_p2)), (3, (.ptr 3 0)), (7, (.vsl 14 l11.length)), (8, (.int .i64 i3)), (9, (.int .i64 i6))], [(3, .row 26 (Q229 a_g)), (14, .arr 1 4 l11.length (fun i => eB (l11.getD i false)))], []⟩ : St)) ?_ hx22 ?_
            · rintro ⟨i9, l10⟩ y h
              unfold m_lockstepref06_Reach_L1 at h
              refine awp_seq ?_
              obtain ⟨hc12, h⟩ := chk_some h
              obtain ⟨hc13, h⟩ := chk_some h
              refine rgs [] [] (⟨[(2, (Q237 a_p2)), (3, (.ptr 3 0)), (7, (.vsl 14 l10.length)), (8, (.int .i64 i3)), (9, (.int .i64 i6)), (10, (.int .i64 i9)), (47, (.bool (bif (l10.getD (i6).toNat false) then (decide ((i9 : Int) < ((a_g.Succ.getD (i6).toNat []).length : Int))) else false)))], (Q234 a_g l10), []⟩ : St) [(InB i6 l10.length), (l10.length = l10.length), ((Q231 l10 i6) = true → (Q231 l10 i6) = true), ((Q231 l10 i6) = true → (Q231 l10 i6) = true), ((Q231 l10 i6) = true → (Q231 l10 i6) = true), ((Q231 l10 i6) = true → (InB i6 a_g.Succ.length)), ((Q231 l10 i6) = true → (Q231 l10 i6) = true), ((Q231 l10 i6) = true → (Q231 l10 i6) = true), ((Q231 l10 i6) = true → (Q231 l10 i6) = true), ((Q231 l10 i6) = true → (Q231 l10 i6) = true), ((l10.getD (i6).toNat false) = true → (Q231 l10 i6) = true)] hn mix (no_hand hΓ) (by kernel_rfl) ⟨hc12, rfl, (fun hg => hg), (fun hg => hg), (fun hg => hg), (fun hg => (hc13 hg)), (fun hg => hg), (fun hg => hg), (fun hg => hg), (fun hg => hg), gT, trivial⟩ ?_
              refine awp_cond (bif (l10.getD (i6).toNat false) then (decide ((i9 : Int) < ((a_g.Succ.getD (i6).toNat []).length : Int))) else false) (by kernel_rfl) (fun hb => ?_) (fun hb => ?_)
              · replace h := cond_t hb h
                clear hb
                refine awp_skip ?_
                refine then_normal ?_
                refine awp_seq ?_
                obtain ⟨x20, hx20, h⟩ := bind_some h
                refine awp_join (fun (l14 : List (Bool)) (e : Exit) (st : St) => e = .normal ∧ Le Γ st (⟨[(2, (Q237 a_p2)), (3, (.ptr 3 0)), (7, (.vsl 14 l14.length)), (8, (.int .i64 i3)), (9, (.int .i64 i6)), (10, (.int .i64 i9))], [(3, .row 26 (Q229 a_g)), (14, .arr 1 4 l14.length (fun i => eB (l14.getD i false)))], []⟩ : St)) hx20 ?_ ?_
                · clear h hx20
                  intro y h
                  refine awp_block ?_
                  obtain ⟨hc15, h⟩ := chk_some h
                  obtain ⟨hc16, h⟩ := chk_some h
                  refine rgs [] [] (⟨[(2, (Q237 a_p2)), (3, (.ptr 3 0)), (7, (.vsl 14 l10.length)), (8, (.int .i64 i3)), (9, (.int .i64 i6)), (10, (.int .i64 i9)), (59, (.bool (((Q233 a_g i6 i9) : Int) != a_p2)))], (Q234 a_g l10), []⟩ : St) [(InB i6 a_g.Succ.length), (InB i9 (a_g.Succ.getD (i6).toNat []).length)] hn mix (no_hand hΓ) (by kernel_rfl) ⟨hc15, hc16, trivial⟩ ?_
                  refine awp_cond (((Q233 a_g i6 i9) : Int) != a_p2) (by kernel_rfl) (fun hb => ?_) (fun hb => ?_)
                  · replace h := cond_t hb h
                    clear hb
                    obtain ⟨hc17, h⟩ := chk_some h
                    obtain ⟨hc18, h⟩ := chk_some h
                    obtain ⟨hc19, h⟩ := chk_some h
                    refine rg [] [] (⟨(Q232 a_p2 l10 i3 i6 i9), [(3, .row 26 (Q229 a_g)), (14, .arr 1 4 l10.length (fun i_ => AV.eraseAll (fun n_ => memB n_ [3, 14]) ((putF (fun i => eB (l10.getD i false)) ((Q233 a_g i6 i9)).toNat 0 [(.bool true)]) i_)))], []⟩ : St) [(InB i6 a_g.Succ.length), (InB i9 (a_g.Succ.getD (i6).toNat []).length), (InB (Q233 a_g i6 i9) l10.length), (l10.length = l10.length)] hn mix (no_hand hΓ) (by kernel_rfl) ⟨hc17, hc18, hc19, rfl, trivial⟩ ?_
                    refine block_normal ?_
                    obtain rfl := Option.some.inj h
                    exact ⟨rfl, Le.trans (Le.trans (le_of (st' := (⟨(Q232 a_p2 l10 i3 i6 i9), [(3, .row 26 (Q229 a_g)), (14, .arr 1 4 l10.length (fun i => eB ((l10.set ((Q233 a_g i6 i9)).toNat true).getD i false)))], []⟩ : St)) (TmpsLe.refl _) (.same (.arr (leL_of_eq (List.length_set ..).symm (fun k_ hk_ => (congrArg (AV.eraseAll (fun n_ => memB n_ [3, 14])) ((putF_set (fun _ _ => rfl) (inB_lt0 hc19) rfl) k_ hk_)).trans rfl)) .nil))) (le_eq (congrArg (fun k_ : Nat => (⟨[(2, (Q237 a_p2)), (3, (.ptr 3 0)), (7, (.vsl 14 k_)), (8, (.int .i64 i3)), (9, (.int .i64 i6)), (10, (.int .i64 i9))], [(3, .row 26 (Q229 a_g)), (14, .arr 1 4 k_ (fun i => eB ((l10.set ((Q233 a_g i6 i9)).toNat true).getD i false)))], []⟩ : St)) (show l10.length = (l10.set ((Q233 a_g i6 i9)).toNat true).length from (List.length_set ..).symm)))) (Le.refl _ _)⟩
                  · replace h := cond_f hb h
                    clear hb
                    refine awp_skip ?_
                    refine block_normal ?_
                    obtain rfl := Option.some.inj h
                    exact ⟨rfl, le_restrict_eq [2, 3, 7, 8, 9, 10] [3, 14] (by kernel_rfl) (no_hand hΓ)⟩
                · clear hx20
                  rintro e st' ⟨rfl, hl21⟩
                  refine then_normal ?_
                  refine awp_le hl21 ?_
                  refine rg0 (⟨[(2, (Q237 a_p2)), (3, (.ptr 3 0)), (7, (.vsl 14 x20.length)), (8, (.int .i64 i3)), (9, (.int .i64 i6)), (10, (.int .i64 (w64 (i9 + (1 : Int)))))], [(3, .row 26 (Q229 a_g)), (14, .arr 1 4 x20.length (fun i => eB (x20.getD i false)))], []⟩ : St) hn mix (no_hand hΓ) (by kernel_rfl) ?_
                  obtain rfl := Option.some.inj h
                  exact ⟨rfl, Le.refl _ _⟩
              · replace h := cond_f hb h
                clear hb
                refine awp_exit ?_
                refine then_exit ?_
                obtain rfl := Option.some.inj h
                exact ⟨(by intro hh; cases hh), rfl, le_restrict_eq [2, 3, 7, 8, 9] [3, 14] (by kernel_rfl) (no_hand hΓ)⟩
            · clear hx22
              rintro e st' ⟨rfl, hl23⟩
              refine block_here ?_
              refine block_normal ?_
              refine then_normal ?_
              refine awp_le hl23 ?_
              refine rg0 (⟨[(2, (Q237 a_p2)), (3, (.ptr 3 0)), (7, (.vsl 14 x22.length)), (8, (.int .i64 i3)), (9, (.int .i64 (w64 (i6 + (1 : Int)))))], [(3, .row 26 (Q229 a_g)), (14, .arr 1 4 x22.length (fun i => eB (x22.getD i false)))], []⟩ : St) hn mix (no_hand hΓ) (by kernel_rfl) ?_
              obtain rfl := Option.some.inj h
              exact ⟨rfl, Le.refl _ _⟩
          · replace h := cond_f hb h
            clear hb
            refine awp_exit ?_
            refine then_exit ?_
            obtain rfl := Option.some.inj h
            exact ⟨(by intro hh; cases hh), rfl, le_restrict_eq [2, 3, 7, 8] [3, 14] (by kernel_rfl) (no_hand hΓ)⟩
        · clear hx24
          rintro e st' ⟨rfl, hl25⟩
          refine block_here ?_
          refine block_normal ?_
          refine then_normal ?_
          refine awp_le hl25 ?_
          refine rg0 (⟨[(2, (Q237 a_p2)), (3, (.ptr 3 0)), (7, (.vsl 14 x24.length)), (8, (.int .i64 (w64 (i3 + (1 : Int)))))], [(3, .row 26 (Q229 a_g)), (14, .arr 1 4 x24.length (fun i => eB (x24.getD i false)))], []⟩ : St) hn mix (no_hand hΓ) (by kernel_rfl) ?_
          obtain rfl := Option.some.inj h
          exact ⟨rfl, Le.refl _ _⟩
      · replace h := cond_f hb h
        clear hb
        refine awp_exit ?_
        refine then_exit ?_
        obtain rfl := Option.some.inj h
        exact ⟨(by intro hh; cases hh), rfl, le_restrict_eq [7] [14] (by kernel_rfl) (no_hand hΓ)⟩
    · clear hx26
      rintro e st' ⟨rfl, hl27⟩
      refine block_here ?_
      refine then_normal ?_
      refine awp_le hl27 ?_
      refine rgs0 (⟨[(6, (.vsl 14 x26.length))], [(14, .arr 1 4 x26.length (fun i => eB (x26.getD i false)))], []⟩ : St) hn mix (no_hand hΓ) (by kernel_rfl) ?_
      refine awp_le (Le.trans (le_freeze (nm := 14) (sz := 1) (n := x26.length) (e := 4) (f := (fun i => eB (x26.getD i false))) (g := (fun i => eB (x26.getD i false))) rfl ⟨rfl, trivial⟩ (fun _ _ => rfl) (by rw [hΓ]; rfl)) (le_eq (st' := (⟨[(6, (AV.list 1 eB false x26 (.own 14)))], [(14, .tok 1 4 x26.length)], []⟩ : St)) (by kernel_rfl))) ?_
      refine awp_ret ?_
      obtain rfl := Option.some.inj h
      exact ⟨.inl rfl, [(14, 20000)], by kernel_rfl⟩

noncomputable def m_locksteplaw08_PdomOver_L1 (a_succ : List (List (Int))) (x5 : (TGraph × Int)) (x6 : List (Int)) (i7 : Int) : Int → Option (LR Int (Unit ⊕ Bool)) :=
  fun (i11 : Int) => (bif (decide ((i11 : Int) ≤ (a_succ.length : Int))) then ((m_pdom_Over x6 i11 i7).bind fun x12 => ((m_lockstepref06_Reach x5.1 i7 i11).bind fun x13 => (chk (InB (a_succ.length : Int) x13.length) (bif (x12 != (!(x13.getD ((a_succ.length : Int)).toNat false))) then (some (.done (.inr false))) else (some (.next (w64 (i11 + (1 : Int))))))))) else (some (.done (.inl ()))))
noncomputable def m_locksteplaw08_PdomOver_L2 (a_succ : List (List (Int))) (x5 : (TGraph × Int)) (x6 : List (Int)) : Int → Option (LR Int (Unit ⊕ Bool)) :=
  fun (i7 : Int) => (bif (decide ((i7 : Int) ≤ (a_succ.length : Int))) then ((m_lockstepref06_Reach x5.1 i7 (-1 : Int)).bind fun x8 => (chk (InB (a_succ.length : Int) x8.length) ((bif ((!(x8.getD ((a_succ.length : Int)).toNat false)) == false) then m_pdom_Over x6 (a_succ.length : Int) i7 else some false).bind fun x10 => (bif (bif (!(x8.getD ((a_succ.length : Int)).toNat false)) then true else (!x10)) then (some (.done (.inr false))) else ((loopO (S := Int) (X := (Unit ⊕ Bool)) (m_locksteplaw08_PdomOver_L1 a_succ x5 x6 i7) (0 : Int)).bind (fun x15 => (match x15 with | (.inl _) => (some (.next (w64 (i7 + (1 : Int))))) | (.inr r17) => (some (.done (.inr r17)))))))))) else (some (.done (.inl ()))))
noncomputable def Q245 (a_succ : List (List (Int))) : AV := (.int .i64 (a_succ.length : Int))
noncomputable def Q249 (a_succ : List (List (Int))) : AV := (AV.list 1 eLI64 [] a_succ .none)
noncomputable def Q247 (x5 : (TGraph × Int)) := (((x5.2 : Int) != (0 : Int)) == false)
noncomputable def Q244 (x6 : List (Int)) : AV := (AV.list 1 eI64 (0 : Int) x6 (.own 40))
noncomputable def Q243 (x8 : List (Bool)) (a_succ : List (List (Int))) := (!(x8.getD ((a_succ.length : Int)).toNat false))
noncomputable def Q246 (a_succ : List (List (Int))) := (decide (((16 : Int) : Int) < (a_succ.length : Int)))
noncomputable def Q248 (x3 : (TGraph × Int)) : List AV := [(AV.list 1 eLI64 [] x3.1.Succ .none), (AV.list 1 eLI64 [] x3.1.Pred .none)]
noncomputable def Q241 (x5 : (TGraph × Int)) (x6 : List (Int)) : List (Nat × Own) := [(6, .row 26 [(AV.list 1 eLI64 [] x5.1.Succ .none), (AV.list 1 eLI64 [] x5.1.Pred .none)]), (40, .tok 1 3 x6.length)]
noncomputable def Q242 (x5 : (TGraph × Int)) (a_succ : List (List (Int))) := (bif ((x5.2 : Int) != (0 : Int)) then true else (((x5.1.Succ.length : Int) : Int) != (w64 ((a_succ.length : Int) + (1 : Int)))))
noncomputable def m_locksteplaw08_PdomOver (a_succ : List (List (Int))) : Option Bool :=
  ((m_locksteplaw08_awake).bind fun x1 => (bif (!x1) then (some false) else ((bif ((decide (((16 : Int) : Int) < (a_succ.length : Int))) == false) then m_lockstepref06_Small a_succ else some false).bind fun x2 => (bif (bif (decide (((16 : Int) : Int) < (a_succ.length : Int))) then true else (!x2)) then (some true) else ((m_graph_Make a_succ).bind fun x3 => (bif ((x3.2 : Int) != (0 : Int)) then ((m_pdom_Tree x3.1).bind fun x4 => (some (((x4.length : Int) : Int) == (0 : Int)))) else ((m_pdom_Exit x3.1).bind fun x5 => ((m_pdom_Tree x3.1).bind fun x6 => (bif (bif (bif ((x5.2 : Int) != (0 : Int)) then true else (((x5.1.Succ.length : Int) : Int) != (w64 ((a_succ.length : Int) + (1 : Int))))) then true else (((x6.length : Int) : Int) != (w64 ((a_succ.length : Int) + (1 : Int))))) then (some false) else ((loopO (S := Int) (X := (Unit ⊕ Bool)) (m_locksteplaw08_PdomOver_L2 a_succ x5 x6) (0 : Int)).bind (fun x18 => (match x18 with | (.inl _) => (some true) | (.inr r20) => (some r20)))))))))))))
theorem ok_locksteplaw08_PdomOver (a_succ : List (List (Int))) (r : Bool) (h : m_locksteplaw08_PdomOver a_succ = some r) : Spec Try.prog 3 [(AV.list 1 eLI64 [] a_succ .none)] [] (.bool r) [] := by
  refine spec_of_awp (fn := Try.f3) Try.func3 rfl rfl (by kernel_rfl) (fun Γ hn hΓ => ?_)
  have hn : Γ.n = 95 := hn
  unfold m_locksteplaw08_PdomOver at h
  refine rgs0 (⟨[(0, (Q249 a_succ))], [], []⟩ : St) hn mix (no_hand hΓ) (by kernel_rfl) ?_
  refine awp_seq ?_
  obtain ⟨x1, hx1, h⟩ := bind_some h
  refine rgs [⟨[], [], (.bool x1), [], []⟩] [] (⟨[(0, (Q249 a_succ)), (12, (.bool (!x1)))], [], []⟩ : St) [(Spec Try.prog 7 [] [] (.bool x1) [])] hn mix (no_hand hΓ) (by kernel_rfl) ⟨(ok_locksteplaw08_awake  x1 hx1), trivial⟩ ?_
  refine awp_cond (!x1) (by kernel_rfl) (fun hb => ?_) (fun hb => ?_)
  · replace h := cond_t hb h
    clear hb
    refine rgs0 (⟨[(2, (.bool false))], [], []⟩ : St) hn mix (no_hand hΓ) (by kernel_rfl) ?_
    refine awp_ret ?_
    refine then_ret ?_
    obtain rfl := Option.some.inj h
    exact ⟨.inl rfl, [], by kernel_rfl⟩
  · replace h := cond_f hb h
    clear hb
    refine awp_skip ?_
    refine then_normal ?_
    refine awp_seq ?_
    obtain ⟨x2, hx2, h⟩ := bind_some h
    refine rgs [⟨[], [], (.bool x2), [], []⟩] [] (⟨[(0, (Q249 a_succ)), (20, (.bool (bif (Q246 a_succ) then true else (!x2))))], [], []⟩ : St) [(((Q246 a_succ) == false) = true → ((Q246 a_succ) == false) = true), (((Q246 a_succ) == false) = true → (Spec Try.prog 8 [(Q249 a_succ)] [] (.bool x2) [])), (((Q246 a_succ) == false) = true → ((Q246 a_succ) == false) = true), ((Q246 a_succ) = false → ((Q246 a_succ) == false) = true)] hn mix (no_hand hΓ) (by kernel_rfl) ⟨(fun hg => hg), (fun hg => (ok_lockstepref06_Small a_succ x2 (cond_t hg hx2))), (fun hg => hg), gF, trivial⟩ ?_
    refine awp_cond (bif (Q246 a_succ) then true else (!x2)) (by kernel_rfl) (fun hb => ?_) (fun hb => ?_)
    · replace h := cond_t hb h
      clear hb
      refine rgs0 (⟨[(2, (.bool true))], [], []⟩ : St) hn mix (no_hand hΓ) (by kernel_rfl) ?_
      refine awp_ret ?_
      refine then_ret ?_
      obtain rfl := Option.some.inj h
      exact ⟨.inl rfl, [], by kernel_rfl⟩
    · replace h := cond_f hb h
      clear hb
      refine awp_skip ?_
      refine then_normal ?_
      obtain ⟨x3, hx3, h⟩ := bind_some h
      refine rgs [⟨[], [], (.tuple [(.agg (eTGraph x3.1)), (.int .i64 x3.2)]), [], []⟩] [] (⟨[(0, (Q249 a_succ)), (3, (.ptr 3 0)), (4, (.int .i64 x3.2))], [(3, .row 26 (Q248 x3))], []⟩ : St) [(Spec Try.prog 9 [(Q249 a_succ)] [] (.tuple [(.agg (eTGraph x3.1)), (.int .i64 x3.2)]) [])] hn mix (no_hand hΓ) (by kernel_rfl) ⟨(ok_graph_Make a_succ x3 hx3), trivial⟩ ?_
      refine awp_seq ?_
      refine rgs0 (⟨[(0, (Q249 a_succ)), (3, (.ptr 3 0)), (27, (.bool ((x3.2 : Int) != (0 : Int))))], [(3, .row 26 (Q248 x3))], []⟩ : St) hn mix (no_hand hΓ) (by kernel_rfl) ?_
      refine awp_cond ((x3.2 : Int) != (0 : Int)) (by kernel_rfl) (fun hb => ?_) (fun hb => ?_)
      · replace h := cond_t hb h
        clear hb
        obtain ⟨x4, hx4, h⟩ := bind_some h
        refine rgs [⟨[], [(20000, 29)], (AV.list 1 eI64 (0 : Int) x4 (.own 20000)), [(20000, .tok 1 3 x4.length)], []⟩] [] (⟨[(2, (.bool (((x4.length : Int) : Int) == (0 : Int))))], [], []⟩ : St) [(Spec Try.prog 10 [(.agg (eTGraph x3.1))] [] (AV.list 1 eI64 (0 : Int) x4 (.own 20000)) [(20000, .tok 1 3 x4.length)])] hn mix (no_hand hΓ) (by kernel_rfl) ⟨(ok_pdom_Tree x3.1 x4 hx4), trivial⟩ ?_
        refine awp_ret ?_
        refine then_ret ?_
        obtain rfl := Option.some.inj h
        exact ⟨.inl rfl, [], by kernel_rfl⟩
      · replace h := cond_f hb h
        clear hb
        refine awp_skip ?_
        refine then_normal ?_
        refine rgs0 (⟨[(3, (.ptr 3 0)), (5, (Q245 a_succ))], [(3, .row 26 (Q248 x3))], []⟩ : St) hn mix (no_hand hΓ) (by kernel_rfl) ?_
        obtain ⟨x5, hx5, h⟩ := bind_some h
        refine rgs [⟨[], [], (.tuple [(.agg (eTGraph x5.1)), (.int .i64 x5.2)]), [], []⟩] [] (⟨[(3, (.ptr 3 0)), (5, (Q245 a_succ)), (6, (.ptr 6 0)), (7, (.int .i64 x5.2))], [(3, .row 26 (Q248 x3)), (6, .row 26 [(AV.list 1 eLI64 [] x5.1.Succ .none), (AV.list 1 eLI64 [] x5.1.Pred .none)])], []⟩ : St) [(Spec Try.prog 11 [(.agg (eTGraph x3.1))] [] (.tuple [(.agg (eTGraph x5.1)), (.int .i64 x5.2)]) [])] hn mix (no_hand hΓ) (by kernel_rfl) ⟨(ok_pdom_Exit x3.1 x5 hx5), trivial⟩ ?_
        obtain ⟨x6, hx6, h⟩ := bind_some h
        refine rgs [⟨[], [(20000, 40)], (AV.list 1 eI64 (0 : Int) x6 (.own 20000)), [(20000, .tok 1 3 x6.length)], []⟩] [] (⟨[(5, (Q245 a_succ)), (6, (.ptr 6 0)), (7, (.int .i64 x5.2)), (8, (Q244 x6))], (Q241 x5 x6), []⟩ : St) [(Spec Try.prog 10 [(.agg (eTGraph x3.1))] [] (AV.list 1 eI64 (0 : Int) x6 (.own 20000)) [(20000, .tok 1 3 x6.length)])] hn mix (no_hand hΓ) (by kernel_rfl) ⟨(ok_pdom_Tree x3.1 x6 hx6), trivial⟩ ?_
        refine awp_seq ?_
        refine rgs [] [] (⟨[(5, (Q245 a_succ)), (6, (.ptr 6 0)), (8, (Q244 x6)), (57, (.bool (bif (Q242 x5 a_succ) then true else (((x6.length : Int) : Int) != (w64 ((a_succ.length : Int) + (1 : Int)))))))], (Q241 x5 x6), []⟩ : St) [((Q247 x5) = true → (Q247 x5) = true), ((Q247 x5) = true → (Q247 x5) = true), ((Q247 x5) = true → (Q247 x5) = true), ((Q247 x5) = true → (Q247 x5) = true), ((Q247 x5) = true → (Q247 x5) = true), (((x5.2 : Int) != (0 : Int)) = false → (Q247 x5) = true), (((Q242 x5 a_succ) == false) = true → ((Q242 x5 a_succ) == false) = true), (((Q242 x5 a_succ) == false) = true → ((Q242 x5 a_succ) == false) = true), (((Q242 x5 a_succ) == false) = true → ((Q242 x5 a_succ) == false) = true), (((Q242 x5 a_succ) == false) = true → ((Q242 x5 a_succ) == false) = true), ((Q242 x5 a_succ) = false → ((Q242 x5 a_succ) == false) = true)] hn mix (no_hand hΓ) (by kernel_rfl) ⟨(fun hg => hg), (fun hg => hg), (fun hg => hg), (fun hg => hg), (fun hg => hg), gF, (fun hg => hg), (fun hg => hg), (fun hg => hg), (fun hg => hg), gF, trivial⟩ ?_
        refine awp_cond (bif (Q242 x5 a_succ) then true else (((x6.length : Int) : Int) != (w64 ((a_succ.length : Int) + (1 : Int))))) (by kernel_rfl) (fun hb => ?_) (fun hb => ?_)
        · replace h := cond_t hb h
          clear hb
          refine rgs0 (⟨[(2, (.bool false))], [], []⟩ : St) hn mix (no_hand hΓ) (by kernel_rfl) ?_
          refine awp_ret ?_
          refine then_ret ?_
          obtain rfl := Option.some.inj h
          exact ⟨.inl rfl, [], by kernel_rfl⟩
        · replace h := cond_f hb h
          clear hb
          refine awp_skip ?_
          refine then_normal ?_
          refine awp_seq ?_
          refine rgs0 (⟨[(5, (Q245 a_succ)), (6, (.ptr 6 0)), (8, (Q244 x6)), (9, (.int .i64 (0 : Int)))], (Q241 x5 x6), []⟩ : St) hn mix (no_hand hΓ) (by kernel_rfl) ?_
          refine awp_block ?_
          refine awp_le (st' := (fun (i7 : Int) => (⟨[(5, (Q245 a_succ)), (6, (.ptr 6 0)), (8, (Q244 x6)), (9, (.int .i64 i7))], (Q241 x5 x6), []⟩ : St)) (0 : Int)) (Le.refl _ _) ?_
          obtain ⟨x18, hx18, h⟩ := bind_some h
          refine awp_loop (fun (i7 : Int) => (⟨[(5, (Q245 a_succ)), (6, (.ptr 6 0)), (8, (Q244 x6)), (9, (.int .i64 i7))], (Q241 x5 x6), []⟩ : St)) _ (fun (x_ : (Unit ⊕ Bool)) (e : Exit) (st : St) => match x_ with | (.inl _) => e = (.exit 0) ∧ Le Γ st (⟨[], [], []⟩ : St) | (.inr r_) => e = .ret ∧ retK Try.prog Try.f3.results.toList [] (.bool r_) [] e st) ?_ hx18 ?_
          · intro i7 y h
            unfold m_locksteplaw08_PdomOver_L2 at h
            refine awp_seq ?_
            refine rgs0 (⟨[(5, (Q245 a_succ)), (6, (.ptr 6 0)), (8, (Q244 x6)), (9, (.int .i64 i7)), (60, (.bool (decide ((i7 : Int) ≤ (a_succ.length : Int)))))], (Q241 x5 x6), []⟩ : St) hn mix (no_hand hΓ) (by kernel_rfl) ?_
            refine awp_cond (decide ((i7 : Int) ≤ (a_succ.length : Int))) (by kernel_rfl) (fun hb => ?_) (fun hb => ?_)
            · replace h := cond_t hb h
              clear hb
              refine awp_skip ?_
              refine then_normal ?_
              refine awp_seq ?_
              refine awp_block ?_
              refine awp_seq ?_
              obtain ⟨x8, hx8, h⟩ := bind_some h
              obtain ⟨hc9, h⟩ := chk_some h
              obtain ⟨x10, hx10, h⟩ := bind_some h
              refine rgs [⟨[], [(20000, 65)], (AV.list 1 eB false x8 (.own 20000)), [(20000, .tok 1 4 x8.length)], []⟩, ⟨[], [], (.bool x10), [], []⟩] [] (⟨[(5, (Q245 a_succ)), (6, (.ptr 6 0)), (8, (Q244 x6)), (9, (.int .i64 i7)), (76, (.bool (bif (Q243 x8 a_succ) then true else (!x10))))], (Q241 x5 x6), []⟩ : St) [(Spec Try.prog 12 [(.agg (eTGraph x5.1)), (.int .i64 i7), (.int .i64 (-1 : Int))] [] (AV.list 1 eB false x8 (.own 20000)) [(20000, .tok 1 4 x8.length)]), (InB (a_succ.length : Int) x8.length), (((Q243 x8 a_succ) == false) = true → ((Q243 x8 a_succ) == false) = true), (((Q243 x8 a_succ) == false) = true → ((Q243 x8 a_succ) == false) = true), (((Q243 x8 a_succ) == false) = true → ((Q243 x8 a_succ) == false) = true), (((Q243 x8 a_succ) == false) = true → (Spec Try.prog 13 [(AV.list 1 eI64 (0 : Int) x6 .none), (Q245 a_succ), (.int .i64 i7)] [] (.bool x10) [])), (((Q243 x8 a_succ) == false) = true → ((Q243 x8 a_succ) == false) = true), ((Q243 x8 a_succ) = false → ((Q243 x8 a_succ) == false) = true)] hn mix (no_hand hΓ) (by kernel_rfl) ⟨(ok_lockstepref06_Reach x5.1 i7 (-1 : Int) x8 hx8), hc9, (fun hg => hg), (fun hg => hg), (fun hg => hg), (fun hg => (ok_pdom_Over x6 (a_succ.length : Int) i7 x10 (cond_t hg hx10))), (fun hg => hg), gF, trivial⟩ ?_
              refine awp_cond (bif (Q243 x8 a_succ) then true else (!x10)) (by kernel_rfl) (fun hb => ?_) (fun hb => ?_)
              · replace h := cond_t hb h
                clear hb
                refine rgs0 (⟨[(2, (.bool false))], [], []⟩ : St) hn mix (no_hand hΓ) (by kernel_rfl) ?_
                refine awp_ret ?_
                refine then_ret ?_
                refine block_ret ?_
                refine then_ret ?_
                obtain rfl := Option.some.inj h
                exact ⟨(by intro hh; cases hh), rfl, ⟨.inl rfl, [], by kernel_rfl⟩⟩
              · replace h := cond_f hb h
                clear hb
                refine awp_skip ?_
                refine then_normal ?_
                refine rgs0 (⟨[(5, (Q245 a_succ)), (6, (.ptr 6 0)), (8, (Q244 x6)), (9, (.int .i64 i7)), (10, (.int .i64 (0 : Int)))], (Q241 x5 x6), []⟩ : St) hn mix (no_hand hΓ) (by kernel_rfl) ?_
                refine awp_block ?_
                refine awp_le (st' := (fun (i11 : Int) => (⟨[(5, (Q245 a_succ)), (6, (.ptr 6 0)), (8, (Q244 x6)), (9, (.int .i64 i7)), (10, (.int .i64 i11))], (Q241 x5 x6), []⟩ : St)) (0 : Int)) (Le.refl _ _) ?_
                obtain ⟨x15, hx15, h⟩ := bind_some h
                refine awp_loop (fun (i11 : Int) => (⟨[(5, (Q245 a_succ)), (6, (.ptr 6 0)), (8, (Q244 x6)), (9, (.int .i64 i7)), (10, (.int .i64 i11))], (Q241 x5 x6), []⟩ : St)) _ (fun (x_ : (Unit ⊕ Bool)) (e : Exit) (st : St) => match x_ with | (.inl _) => e = (.exit 2) ∧ Le Γ st (⟨[(5, (Q245 a_succ)), (6, (.ptr 6 0)), (8, (Q244 x6)), (9, (.int .i64 i7))], (Q241 x5 x6), []⟩ : St) | (.inr r_) => e = .ret ∧ retK Try.prog Try.f3.results.toList [] (.bool r_) [] e st) ?_ hx15 ?_
                · intro i11 y h
                  unfold m_locksteplaw08_PdomOver_L1 at h
                  refine awp_seq ?_
                  refine rgs0 (⟨[(5, (Q245 a_succ)), (6, (.ptr 6 0)), (8, (Q244 x6)), (9, (.int .i64 i7)), (10, (.int .i64 i11)), (79, (.bool (decide ((i11 : Int) ≤ (a_succ.length : Int)))))], (Q241 x5 x6), []⟩ : St) hn mix (no_hand hΓ) (by kernel_rfl) ?_
                  refine awp_cond (decide ((i11 : Int) ≤ (a_succ.length : Int))) (by kernel_rfl) (fun hb => ?_) (fun hb => ?_)
                  · replace h := cond_t hb h
                    clear hb
                    refine awp_skip ?_
                    refine then_normal ?_
                    refine awp_seq ?_
                    refine awp_block ?_
                    obtain ⟨x12, hx12, h⟩ := bind_some h
                    obtain ⟨x13, hx13, h⟩ := bind_some h
                    obtain ⟨hc14, h⟩ := chk_some h
                    refine rgs [⟨[], [], (.bool x12), [], []⟩, ⟨[], [(20000, 89)], (AV.list 1 eB false x13 (.own 20000)), [(20000, .tok 1 4 x13.length)], []⟩] [] (⟨[(5, (Q245 a_succ)), (6, (.ptr 6 0)), (8, (Q244 x6)), (9, (.int .i64 i7)), (10, (.int .i64 i11)), (94, (.bool (x12 != (!(x13.getD ((a_succ.length : Int)).toNat false)))))], (Q241 x5 x6), []⟩ : St) [(Spec Try.prog 13 [(AV.list 1 eI64 (0 : Int) x6 .none), (.int .i64 i11), (.int .i64 i7)] [] (.bool x12) []), (Spec Try.prog 12 [(.agg (eTGraph x5.1)), (.int .i64 i7), (.int .i64 i11)] [] (AV.list 1 eB false x13 (.own 20000)) [(20000, .tok 1 4 x13.length)]), (InB (a_succ.length : Int) x13.length)] hn mix (no_hand hΓ) (by kernel_rfl) ⟨(ok_pdom_Over x6 i11 i7 x12 hx12), (ok_lockstepref06_Reach x5.1 i7 i11 x13 hx13), hc14, trivial⟩ ?_
                    refine awp_cond (x12 != (!(x13.getD ((a_succ.length : Int)).toNat false))) (by kernel_rfl) (fun hb => ?_) (fun hb => ?_)
                    · replace h := cond_t hb h
                      clear hb
                      refine rgs0 (⟨[(2, (.bool false))], [], []⟩ : St) hn mix (no_hand hΓ) (by kernel_rfl) ?_
                      refine awp_ret ?_
                      refine block_ret ?_
                      refine then_ret ?_
                      obtain rfl := Option.some.inj h
                      exact ⟨(by intro hh; cases hh), rfl, ⟨.inl rfl, [], by kernel_rfl⟩⟩
                    · replace h := cond_f hb h
                      clear hb
                      refine awp_skip ?_
                      refine block_normal ?_
                      refine then_normal ?_
                      refine rg0 (⟨[(5, (Q245 a_succ)), (6, (.ptr 6 0)), (8, (Q244 x6)), (9, (.int .i64 i7)), (10, (.int .i64 (w64 (i11 + (1 : Int)))))], (Q241 x5 x6), []⟩ : St) hn mix (no_hand hΓ) (by kernel_rfl) ?_
                      obtain rfl := Option.some.inj h
                      exact ⟨rfl, Le.refl _ _⟩
                  · replace h := cond_f hb h
                    clear hb
                    refine awp_exit ?_
                    refine then_exit ?_
                    obtain rfl := Option.some.inj h
                    exact ⟨(by intro hh; cases hh), rfl, le_restrict_eq [5, 6, 8, 9] [6, 40] (by kernel_rfl) (no_hand hΓ)⟩
                · clear hx15
                  rcases x15 with _ | r17
                  · rintro e st' ⟨rfl, hl16⟩
                    refine block_here ?_
                    refine block_normal ?_
                    refine then_normal ?_
                    refine awp_le hl16 ?_
                    refine rg0 (⟨[(5, (Q245 a_succ)), (6, (.ptr 6 0)), (8, (Q244 x6)), (9, (.int .i64 (w64 (i7 + (1 : Int)))))], (Q241 x5 x6), []⟩ : St) hn mix (no_hand hΓ) (by kernel_rfl) ?_
                    obtain rfl := Option.some.inj h
                    exact ⟨rfl, Le.refl _ _⟩
                  · rintro e st' ⟨rfl, hk⟩
                    refine block_ret ?_
                    refine block_ret ?_
                    refine then_ret ?_
                    obtain rfl := Option.some.inj h
                    exact ⟨(by intro hh; cases hh), rfl, hk⟩
            · replace h := cond_f hb h
              clear hb
              refine awp_exit ?_
              refine then_exit ?_
              obtain rfl := Option.some.inj h
              exact ⟨(by intro hh; cases hh), rfl, le_restrict_eq [] [] (by kernel_rfl) (no_hand hΓ)⟩
          · clear hx18
            rcases x18 with _ | r20
            · rintro e st' ⟨rfl, hl19⟩
              refine block_here ?_
              refine then_normal ?_
              refine awp_le hl19 ?_
              refine rgs0 (⟨[(2, (.bool true))], [], []⟩ : St) hn mix (no_hand hΓ) (by kernel_rfl) ?_
              refine awp_ret ?_
              obtain rfl := Option.some.inj h
              exact ⟨.inl rfl, [], by kernel_rfl⟩
            · rintro e st' ⟨rfl, hk⟩
              refine block_ret ?_
              refine then_ret ?_
              obtain rfl := Option.some.inj h
              exact hk

noncomputable def m_lockstepref06_Has_L1 (a_l : List (Int)) (a_x : Int) : Int → Option (LR Int (Unit ⊕ Bool)) :=
  fun (i1 : Int) => (bif (decide ((i1 : Int) < (a_l.length : Int))) then (chk (InB i1 a_l.length) (bif (((a_l.getD (i1).toNat (0 : Int)) : Int) == a_x) then (some (.done (.inr true))) else (some (.next (w64 (i1 + (1 : Int))))))) else (some (.done (.inl ()))))
noncomputable def Q250 (a_l : List (Int)) : AV := (AV.list 1 eI64 (0 : Int) a_l .none)
noncomputable def m_lockstepref06_Has (a_l : List (Int)) (a_x : Int) : Option Bool :=
  ((loopO (S := Int) (X := (Unit ⊕ Bool)) (m_lockstepref06_Has_L1 a_l a_x) (0 : Int)).bind (fun x3 => (match x3 with | (.inl _) => (some false) | (.inr r5) => (some r5))))
theorem ok_lockstepref06_Has (a_l : List (Int)) (a_x : Int) (r : Bool) (h : m_lockstepref06_Has a_l a_x = some r) : Spec Try.prog 15 [(AV.list 1 eI64 (0 : Int) a_l .none), (.int .i64 a_x)] [] (.bool r) [] := by
  refine spec_of_awp (fn := Try.f15) Try.func15 rfl rfl (by kernel_rfl) (fun Γ hn hΓ => ?_)
  have hn : Γ.n = 18 := hn
  unfold m_lockstepref06_Has at h
  refine rgs0 (⟨[(0, (Q250 a_l)), (1, (.int .i64 a_x))], [], []⟩ : St) hn mix (no_hand hΓ) (by kernel_rfl) ?_
  refine awp_seq ?_
  refine rgs0 (⟨[(0, (Q250 a_l)), (1, (.int .i64 a_x)), (5, (.int .i64 (0 : Int)))], [], []⟩ : St) hn mix (no_hand hΓ) (by kernel_rfl) ?_
  refine awp_block ?_
  refine awp_le (st' := (fun (i1 : Int) => (⟨[(0, (Q250 a_l)), (1, (.int .i64 a_x)), (5, (.int .i64 i1))], [], []⟩ : St)) (0 : Int)) (Le.refl _ _) ?_
  obtain ⟨x3, hx3, h⟩ := bind_some h
  refine awp_loop (fun (i1 : Int) => (⟨[(0, (Q250 a_l)), (1, (.int .i64 a_x)), (5, (.int .i64 i1))], [], []⟩ : St)) _ (fun (x_ : (Unit ⊕ Bool)) (e : Exit) (st : St) => match x_ with | (.inl _) => e = (.exit 0) ∧ Le Γ st (⟨[], [], []⟩ : St) | (.inr r_) => e = .ret ∧ retK Try.prog Try.f15.results.toList [] (.bool r_) [] e st) ?_ hx3 ?_
  · intro i1 y h
    unfold m_lockstepref06_Has_L1 at h
    refine awp_seq ?_
    refine rgs0 (⟨[(0, (Q250 a_l)), (1, (.int .i64 a_x)), (5, (.int .i64 i1)), (9, (.bool (decide ((i1 : Int) < (a_l.length : Int)))))], [], []⟩ : St) hn mix (no_hand hΓ) (by kernel_rfl) ?_
    refine awp_cond (decide ((i1 : Int) < (a_l.length : Int))) (by kernel_rfl) (fun hb => ?_) (fun hb => ?_)
    · replace h := cond_t hb h
      clear hb
      refine awp_skip ?_
      refine then_normal ?_
      refine awp_seq ?_
      refine awp_block ?_
      obtain ⟨hc2, h⟩ := chk_some h
      refine rgs [] [] (⟨[(0, (Q250 a_l)), (1, (.int .i64 a_x)), (5, (.int .i64 i1)), (17, (.bool (((a_l.getD (i1).toNat (0 : Int)) : Int) == a_x)))], [], []⟩ : St) [(InB i1 a_l.length)] hn mix (no_hand hΓ) (by kernel_rfl) ⟨hc2, trivial⟩ ?_
      refine awp_cond (((a_l.getD (i1).toNat (0 : Int)) : Int) == a_x) (by kernel_rfl) (fun hb => ?_) (fun hb => ?_)
      · replace h := cond_t hb h
        clear hb
        refine rgs0 (⟨[(4, (.bool true))], [], []⟩ : St) hn mix (no_hand hΓ) (by kernel_rfl) ?_
        refine awp_ret ?_
        refine block_ret ?_
        refine then_ret ?_
        obtain rfl := Option.some.inj h
        exact ⟨(by intro hh; cases hh), rfl, ⟨.inl rfl, [], by kernel_rfl⟩⟩
      · replace h := cond_f hb h
        clear hb
        refine awp_skip ?_
        refine block_normal ?_
        refine then_normal ?_
        refine rg0 (⟨[(0, (Q250 a_l)), (1, (.int .i64 a_x)), (5, (.int .i64 (w64 (i1 + (1 : Int)))))], [], []⟩ : St) hn mix (no_hand hΓ) (by kernel_rfl) ?_
        obtain rfl := Option.some.inj h
        exact ⟨rfl, Le.refl _ _⟩
    · replace h := cond_f hb h
      clear hb
      refine awp_exit ?_
      refine then_exit ?_
      obtain rfl := Option.some.inj h
      exact ⟨(by intro hh; cases hh), rfl, le_restrict_eq [] [] (by kernel_rfl) (no_hand hΓ)⟩
  · clear hx3
    rcases x3 with _ | r5
    · rintro e st' ⟨rfl, hl4⟩
      refine block_here ?_
      refine then_normal ?_
      refine awp_le hl4 ?_
      refine rgs0 (⟨[(4, (.bool false))], [], []⟩ : St) hn mix (no_hand hΓ) (by kernel_rfl) ?_
      refine awp_ret ?_
      obtain rfl := Option.some.inj h
      exact ⟨.inl rfl, [], by kernel_rfl⟩
    · rintro e st' ⟨rfl, hk⟩
      refine block_ret ?_
      refine then_ret ?_
      obtain rfl := Option.some.inj h
      exact hk

end Go.Proofs.Ytlkcijaejngomaa

namespace Go.Proofs.Ytlkcijaejngomaa
open Go Go.RowKit

theorem w64_of {n : Int} (h : -9223372036854775808 ≤ n) (h' : n < 9223372036854775808) : w64 n = n := by
  show IntKind.i64.wrap n = n
  simp only [IntKind.wrap, IntKind.bits, IntKind.signed]
  simp
  split <;> omega
theorem wu64_of {n : Int} (h : 0 ≤ n) (h' : n < 18446744073709551616) : wu64 n = n := by
  show IntKind.u64.wrap n = n
  simp [IntKind.wrap, IntKind.bits, IntKind.signed]
  omega
theorem wu64_mod (n : Int) : wu64 n = n % 18446744073709551616 := by
  show IntKind.u64.wrap n = _
  simp [IntKind.wrap, IntKind.bits, IntKind.signed]
theorem wu8_of {n : Int} (h : 0 ≤ n) (h' : n < 256) : wu8 n = n := by
  show IntKind.u8.wrap n = n
  simp [IntKind.wrap, IntKind.bits, IntKind.signed]
  omega
theorem wu8_mod (n : Int) : wu8 n = n % 256 := by
  show IntKind.u8.wrap n = _
  simp [IntKind.wrap, IntKind.bits, IntKind.signed]

theorem ofInt_nat (w n : Nat) (h : n < 2 ^ w) : (BitVec.ofInt w (n : Int)).toNat = n := by
  rw [BitVec.toNat_ofInt, ← Int.natCast_emod, Int.toNat_natCast, Nat.mod_eq_of_lt h]

theorem uwrap_of (k : IntKind) (hk : k.signed = false) {n : Nat} (h : n < 2 ^ k.bits) : k.wrap (n : Int) = n := by
  simp only [IntKind.wrap, hk, Bool.false_and, Bool.false_eq_true, if_false]
  have : ((2 : Int) ^ k.bits) = ((2 ^ k.bits : Nat) : Int) := by simp
  rw [this, ← Int.natCast_emod, Nat.mod_eq_of_lt h]

theorem bits_and (k : IntKind) (hk : k.signed = false) {a b : Nat} (ha : a < 2 ^ k.bits) (hb : b < 2 ^ k.bits) : bitsV .and k a b = ((a &&& b : Nat) : Int) := by
  simp only [bitsV, BitVec.toNat_and, ofInt_nat _ _ ha, ofInt_nat _ _ hb]
  exact uwrap_of k hk (Nat.lt_of_le_of_lt Nat.and_le_left ha)
theorem bits_or (k : IntKind) (hk : k.signed = false) {a b : Nat} (ha : a < 2 ^ k.bits) (hb : b < 2 ^ k.bits) : bitsV .or k a b = ((a ||| b : Nat) : Int) := by
  simp only [bitsV, BitVec.toNat_or, ofInt_nat _ _ ha, ofInt_nat _ _ hb]
  exact uwrap_of k hk (Nat.or_lt_two_pow ha hb)
theorem bits_xor (k : IntKind) (hk : k.signed = false) {a b : Nat} (ha : a < 2 ^ k.bits) (hb : b < 2 ^ k.bits) : bitsV .xor k a b = ((a ^^^ b : Nat) : Int) := by
  simp only [bitsV, BitVec.toNat_xor, ofInt_nat _ _ ha, ofInt_nat _ _ hb]
  exact uwrap_of k hk (Nat.xor_lt_two_pow ha hb)

theorem and_low (k : IntKind) (hk : k.signed = false) (j : Nat) (hj : j ≤ k.bits) {a : Nat} (ha : a < 2 ^ k.bits) {m : Int} (hm : m = ((2 ^ j - 1 : Nat) : Int)) : bitsV .and k a m = ((a % 2 ^ j : Nat) : Int) := by
  subst hm
  rw [bits_and k hk ha, Nat.and_two_pow_sub_one_eq_mod]
  have := Nat.pow_le_pow_right (n := 2) (by omega) hj
  have := Nat.two_pow_pos j
  omega
theorem or_add (k : IntKind) (hk : k.signed = false) (j : Nat) {a b : Nat} (ha : a < 2 ^ j) (hb : a + b * 2 ^ j < 2 ^ k.bits) {y : Int} (hy : y = ((b * 2 ^ j : Nat) : Int)) : bitsV .or k a y = ((a + b * 2 ^ j : Nat) : Int) := by
  subst hy
  rw [bits_or k hk (by omega) (by omega), Nat.or_comm, Nat.mul_comm b, ← Nat.two_pow_add_eq_or_of_lt ha, Nat.add_comm]

theorem chk_pos' {R : Type} {p : Prop} [Decidable p] {k : Option R} (h : p) : chk p k = k := if_pos h
theorem scopeO_self {S X : Type} (f : S → Option (LR S X)) (s : S) : scopeO (f s) f = loopO f s := by
  unfold scopeO
  cases h : f s with
  | none => rw [Option.bind_none, loopO_none h]
  | some y => cases y with
    | next s' => rw [loopO_next h]; rfl
    | done x => rw [loopO_done h]; rfl
theorem fdiv_pow {x : Int} (j : Nat) : x.fdiv (2 ^ j) = x / 2 ^ j := by rw [Int.fdiv_eq_ediv_of_nonneg _ (by exact Int.le_of_lt (Int.pow_pos (by decide)))]
theorem toNat_cast {n : Nat} : ((n : Int)).toNat = n := rfl

/-- What is asked of each element in turn. -/
theorem getD_eq_of_lt {α : Type} (l : List α) (i : Nat) (d : α) (h : i < l.length) : l.getD i d = l[i] := by simp [List.getD, h]
theorem take_succ_getD {α : Type} (l : List α) (i : Nat) (d : α) (h : i < l.length) : l.take (i + 1) = l.take i ++ [l.getD i d] := by
  rw [List.take_add_one, getD_eq_of_lt _ _ _ h]; simp [h]
theorem bytesF_eq {l : List Int} {f : Nat → List AV} (h : ∀ i, f i = [.int .u8 (l.getD i 0)]) : bytesF l.length f = l := by
  apply List.ext_getElem (by simp [bytesF])
  intro i h1 h2
  simp only [bytesF, List.getElem_map, List.getElem_range, h, AV.num]
  exact getD_eq_of_lt _ _ _ h2
theorem byteF_of {l : List Int} {f : Nat → List AV} (h : ∀ i, f i = [.int .u8 (l.getD i 0)]) (hl : ∀ x ∈ l, 0 ≤ x ∧ x < 256) : ByteF l.length f := fun i hi => by
  rw [h i]
  refine ⟨rfl, ?_⟩
  simp only [AV.num]
  rw [getD_eq_of_lt _ _ _ hi]
  exact hl _ (List.getElem_mem hi)
theorem two64 : (2 : Nat) ^ 64 = 18446744073709551616 := by decide
end Go.Proofs.Ytlkcijaejngomaa

namespace Go.Proofs.Ytlkcijaejngomaa
open Go Go.RowKit
set_option linter.unusedVariables false

/-- Over a list, till one does not fit. -/
theorem loop_all {α X : Type} (l : List α) (d : α) (p : α → Bool) (f : Int → Option (LR Int X)) (yes no : X) (hn : ∀ i : Nat, i < l.length → p (l.getD i d) = true → f i = some (.next ((i : Int) + 1)))
    (hf : ∀ i : Nat, i < l.length → p (l.getD i d) = false → f i = some (.done no)) (he : f l.length = some (.done yes)) : ∀ (k i : Nat), i + k = l.length → loopO f i = some (bif (l.drop i).all p then yes else no)
  | 0, i, h => by
    obtain rfl : i = l.length := by omega
    rw [loopO_done he]
    simp
  | k + 1, i, h => by
    have hi : i < l.length := by omega
    have hd : l.drop i = l.getD i d :: l.drop (i + 1) := by rw [List.drop_eq_getElem_cons hi, getD_eq_of_lt _ _ _ hi]
    cases hp : p (l.getD i d) with
    | true =>
      rw [loopO_next (hn i hi hp)]
      have := loop_all l d p f yes no hn hf he k (i + 1) (by omega)
      rw [show ((i : Int) + 1) = ((i + 1 : Nat) : Int) by omega, this, hd, List.all_cons, hp, Bool.true_and]
    | false =>
      rw [loopO_done (hf i hi hp), hd, List.all_cons, hp, Bool.false_and, cond_false]

/-- A list, element by element. -/
theorem loop_build {α X : Type} (n : Nat) (g : Nat → α) (f : List α × Int → Option (LR (List α × Int) X)) (out : List α → X) (hn : ∀ (l : List α) (i : Nat), i < n → l.length = i → f (l, (i : Int)) = some (.next (l ++ [g i], (i : Int) + 1)))
    (he : ∀ l : List α, l.length = n → f (l, (n : Int)) = some (.done (out l))) : ∀ (k i : Nat) (l : List α), i + k = n → l = (List.range i).map g → loopO f (l, (i : Int)) = some (out ((List.range n).map g))
  | 0, i, l, h, hl => by
    obtain rfl : i = n := by omega
    subst hl
    exact loopO_done (he _ (by simp))
  | k + 1, i, l, h, hl => by
    subst hl
    rw [loopO_next (hn _ i (by omega) (by simp)), show ((i : Int) + 1) = ((i + 1 : Nat) : Int) by omega]
    exact loop_build n g f out hn he k (i + 1) _ (by omega) (by simp [List.range_succ])

/-- Two lists of one length, till they part. -/
theorem loop_eq {α X : Type} [BEq α] [LawfulBEq α] (l m : List α) (d : α) (f : Int → Option (LR Int X)) (yes no : X) (hlen : l.length = m.length) (hn : ∀ i : Nat, i < l.length → (l.getD i d == m.getD i d) = true → f i = some (.next ((i : Int) + 1)))
    (hf : ∀ i : Nat, i < l.length → (l.getD i d == m.getD i d) = false → f i = some (.done no)) (he : f l.length = some (.done yes)) : ∀ (k i : Nat), i + k = l.length → loopO f i = some (bif l.drop i == m.drop i then yes else no)
  | 0, i, h => by
    obtain rfl : i = l.length := by omega
    rw [loopO_done he]
    rw [List.drop_length, hlen, List.drop_length]
    simp
  | k + 1, i, h => by
    have hi : i < l.length := by omega
    have hd : l.drop i = l.getD i d :: l.drop (i + 1) := by rw [List.drop_eq_getElem_cons hi, getD_eq_of_lt _ _ _ hi]
    have hd' : m.drop i = m.getD i d :: m.drop (i + 1) := by rw [List.drop_eq_getElem_cons (by omega), getD_eq_of_lt _ _ _ (by omega)]
    cases hp : (l.getD i d == m.getD i d) with
    | true =>
      rw [loopO_next (hn i hi hp)]
      have := loop_eq l m d f yes no hlen hn hf he k (i + 1) (by omega)
      rw [show ((i : Int) + 1) = ((i + 1 : Nat) : Int) by omega, this, hd, hd', List.cons_beq_cons, hp, Bool.true_and]
    | false =>
      rw [loopO_done (hf i hi hp), hd, hd', List.cons_beq_cons, hp, Bool.false_and, cond_false]
/-- Counted up, till it is too much. -/
theorem loop_sum {α : Type} (l : List α) (d : α) (wt : α → Nat) (C : Nat) (f : Int × Int → Option (LR (Int × Int) Int))
    (hn : ∀ (n i : Nat), i < l.length → n ≤ C → ∃ m : Nat, f ((n : Int), (i : Int)) = some (.next ((m : Int), ((i + 1 : Nat) : Int))) ∧ (n + wt (l.getD i d) ≤ C → m = n + wt (l.getD i d)) ∧ (m ≤ C → n + wt (l.getD i d) ≤ C))
    (hd : ∀ (n i : Nat), i ≤ l.length → (i = l.length ∨ C < n) → f ((n : Int), (i : Int)) = some (.done (n : Int))) :
    ∀ (k i n : Nat), i + k = l.length → ∃ m : Nat, loopO f ((n : Int), (i : Int)) = some (m : Int) ∧ (n + ((l.drop i).map wt).sum ≤ C → m = n + ((l.drop i).map wt).sum) ∧ (m ≤ C → n + ((l.drop i).map wt).sum ≤ C)
  | 0, i, n, h => by
    obtain rfl : i = l.length := by omega
    refine ⟨n, loopO_done (hd n _ (Nat.le_refl _) (.inl rfl)), ?_, ?_⟩
    · simp
    · simp
  | k + 1, i, n, h => by
    have hi : i < l.length := by omega
    have hdr : l.drop i = l.getD i d :: l.drop (i + 1) := by rw [List.drop_eq_getElem_cons hi, getD_eq_of_lt _ _ _ hi]
    by_cases hC : n ≤ C
    · obtain ⟨m, h1, h2, h3⟩ := hn n i hi hC
      obtain ⟨m', h4, h5, h6⟩ := loop_sum l d wt C f hn hd k (i + 1) m (by omega)
      refine ⟨m', by rw [loopO_next h1]; exact h4, fun hle => ?_, fun hle => ?_⟩
      · rw [hdr, List.map_cons, List.sum_cons] at hle ⊢
        have := h2 (by omega)
        subst this
        rw [h5 (by omega)]
        omega
      · rw [hdr, List.map_cons, List.sum_cons]
        have h7 := h6 hle
        have h8 := h3 (by omega)
        have := h2 h8
        omega
    · refine ⟨n, loopO_done (hd n i (by omega) (.inr (by omega))), fun hle => by omega, fun hle => by omega⟩

/-- Whatever is counted: it ends. -/
theorem loop_total {X : Type} (N : Nat) (f : Int × Int → Option (LR (Int × Int) X)) (hn : ∀ (n : Int) (i : Nat), i < N → (∃ m : Int, f (n, (i : Int)) = some (.next (m, ((i + 1 : Nat) : Int)))) ∨ ∃ x, f (n, (i : Int)) = some (.done x)) (hd : ∀ n : Int, ∃ x, f (n, (N : Int)) = some (.done x)) :
    ∀ (k i : Nat) (n : Int), i + k = N → ∃ x, loopO f (n, (i : Int)) = some x
  | 0, i, n, h => by
    obtain rfl : i = N := by omega
    obtain ⟨x, hx⟩ := hd n
    exact ⟨x, loopO_done hx⟩
  | k + 1, i, n, h => by
    rcases hn n i (by omega) with ⟨m, hm⟩ | ⟨x, hx⟩
    · obtain ⟨x, hx⟩ := loop_total N f hn hd k (i + 1) m (by omega)
      exact ⟨x, by rw [loopO_next hm]; exact hx⟩
    · exact ⟨x, loopO_done hx⟩
/-- Counted up, as words. -/
theorem loop_addw {α X : Type} (l : List α) (d : α) (wt : α → Nat) (out : Int → X) (f : Int × Int → Option (LR (Int × Int) X))
    (hn : ∀ (n i : Nat), i < l.length → f (w64 n, (i : Int)) = some (.next (w64 ((n + wt (l.getD i d) : Nat) : Int), ((i + 1 : Nat) : Int)))) (hd : ∀ n : Int, f (n, (l.length : Int)) = some (.done (out n))) :
    ∀ (k i n : Nat), i + k = l.length → loopO f (w64 n, (i : Int)) = some (out (w64 ((n + ((l.drop i).map wt).sum : Nat) : Int)))
  | 0, i, n, h => by
    obtain rfl : i = l.length := by omega
    rw [loopO_done (hd _)]
    simp
  | k + 1, i, n, h => by
    have hi : i < l.length := by omega
    have hdr : l.drop i = l.getD i d :: l.drop (i + 1) := by rw [List.drop_eq_getElem_cons hi, getD_eq_of_lt _ _ _ hi]
    rw [loopO_next (hn n i hi), loop_addw l d wt out f hn hd k (i + 1) _ (by omega), hdr, List.map_cons, List.sum_cons, Nat.add_assoc]
theorem w64_add (a b : Int) : w64 (w64 a + b) = w64 (a + b) := by
  show IntKind.i64.wrap (IntKind.i64.wrap a + b) = IntKind.i64.wrap (a + b)
  simp only [IntKind.wrap, IntKind.bits, IntKind.signed]
  simp
  split <;> split <;> omega

/-- Counted up. -/
theorem loop_add {α X : Type} (l : List α) (d : α) (wt : α → Nat) (M : Nat) (out : Int → X) (f : Int × Int → Option (LR (Int × Int) X))
    (hn : ∀ (n i : Nat), i < l.length → n + wt (l.getD i d) ≤ M → f ((n : Int), (i : Int)) = some (.next (((n + wt (l.getD i d) : Nat) : Int), ((i + 1 : Nat) : Int))))
    (hd : ∀ n : Nat, f ((n : Int), (l.length : Int)) = some (.done (out n))) :
    ∀ (k i n : Nat), i + k = l.length → n + ((l.drop i).map wt).sum ≤ M → loopO f ((n : Int), (i : Int)) = some (out ((n + ((l.drop i).map wt).sum : Nat) : Int))
  | 0, i, n, h, _ => by
    obtain rfl : i = l.length := by omega
    rw [loopO_done (hd n)]
    simp
  | k + 1, i, n, h, hM => by
    have hi : i < l.length := by omega
    have hdr : l.drop i = l.getD i d :: l.drop (i + 1) := by rw [List.drop_eq_getElem_cons hi, getD_eq_of_lt _ _ _ hi]
    rw [hdr, List.map_cons, List.sum_cons] at hM
    rw [loopO_next (hn n i hi (by omega)), loop_add l d wt M out f hn hd k (i + 1) _ (by omega) (by omega), hdr, List.map_cons, List.sum_cons, Nat.add_assoc]

/-- Put together, piece behind piece. -/
theorem loop_append {α β : Type} (l : List α) (d : α) (E : α → List β) (M : Nat) (f : List β × Int → Option (LR (List β × Int) (List β)))
    (hn : ∀ (out : List β) (i : Nat), i < l.length → out.length + (E (l.getD i d)).length ≤ M → f (out, (i : Int)) = some (.next (out ++ E (l.getD i d), ((i + 1 : Nat) : Int))))
    (hd : ∀ out : List β, f (out, (l.length : Int)) = some (.done out)) :
    ∀ (k i : Nat) (out : List β), i + k = l.length → out.length + ((l.drop i).map E).flatten.length ≤ M → loopO f (out, (i : Int)) = some (out ++ ((l.drop i).map E).flatten)
  | 0, i, out, h, _ => by
    obtain rfl : i = l.length := by omega
    rw [loopO_done (hd out)]
    simp
  | k + 1, i, out, h, hM => by
    have hi : i < l.length := by omega
    have hdr : l.drop i = l.getD i d :: l.drop (i + 1) := by rw [List.drop_eq_getElem_cons hi, getD_eq_of_lt _ _ _ hi]
    rw [hdr, List.map_cons, List.flatten_cons, List.length_append] at hM
    rw [loopO_next (hn out i hi (by omega)), loop_append l d E M f hn hd k (i + 1) _ (by omega) (by rw [List.length_append]; omega), hdr, List.map_cons, List.flatten_cons, List.append_assoc]
theorem flat_bound {α β : Type} (l : List α) (E : α → List β) (B : Nat) (h : ∀ a ∈ l, (E a).length ≤ B) : (l.map E).flatten.length ≤ l.length * B := by
  induction l with
  | nil => simp
  | cons a l ih =>
    have h1 := h a (by simp)
    have h2 := ih (fun b hb => h b (by simp [hb]))
    rw [List.map_cons, List.flatten_cons, List.length_append, List.length_cons, Nat.add_mul]
    omega
theorem getD_mem {α : Type} {l : List α} {i : Nat} {d : α} (h : i < l.length) : l.getD i d ∈ l := by rw [getD_eq_of_lt _ _ _ h]; exact List.getElem_mem h
theorem inB_nat {i n : Nat} (h : i < n) : InB (i : Int) n := ⟨by omega, by exact_mod_cast h⟩
theorem w64_succ {i n : Nat} (h : i < n) (hn : n < 9223372036854775808) : w64 ((i : Int) + 1) = (i : Int) + 1 := w64_of (by omega) (by omega)
def good31 (l : List Int) : Prop := ∀ x ∈ l, 0 ≤ x ∧ x ≤ 2147483647
end Go.Proofs.Ytlkcijaejngomaa

namespace Go.Proofs.Ytlkcijaejngomaa
open Go Go.RowKit
set_option linter.unusedVariables false
set_option linter.unusedSimpArgs false

/-! ### Loops, step by step -/
theorem loop_seq {S X : Type} (f : S → Option (LR S X)) (T : Nat → S) (x : X) : ∀ (n : Nat), (∀ i, i < n → f (T i) = some (.next (T (i + 1)))) → f (T n) = some (.done x) → loopO f (T 0) = some x := by
  suffices h : ∀ (k i n : Nat), i + k = n → (∀ j, i ≤ j → j < n → f (T j) = some (.next (T (j + 1)))) → f (T n) = some (.done x) → loopO f (T i) = some x from
    fun n h1 h2 => h n 0 n (by omega) (fun j _ hj => h1 j hj) h2
  intro k
  induction k with
  | zero =>
    intro i n hi _ h2
    have hin : n = i := by omega
    subst hin
    exact loopO_done h2
  | succ k ih => intro i n hi h1 h2; rw [loopO_next (h1 i (Nat.le_refl _) (by omega))]; exact ih (i + 1) n (by omega) (fun j hj hj' => h1 j (by omega) hj') h2
theorem loop_seq_part {S X : Type} (f : S → Option (LR S X)) (T : Nat → S) : ∀ (n : Nat), (∀ i, i < n → f (T i) = some (.next (T (i + 1)))) → loopO f (T 0) = loopO f (T n) := by
  intro n
  induction n with
  | zero => intro _; rfl
  | succ n ih => intro h; rw [ih (fun i hi => h i (by omega)), loopO_next (h n (by omega))]
/-- .. till one does not fit. -/
theorem loop_find {S X : Type} (f : S → Option (LR S X)) (T : Nat → S) (p : Nat → Bool) (yes no : X) (n : Nat) (hn : ∀ i, i < n → p i = true → f (T i) = some (.next (T (i + 1)))) (hf : ∀ i, i < n → p i = false → f (T i) = some (.done no))
    (he : f (T n) = some (.done yes)) : loopO f (T 0) = some (bif (List.range n).all p then yes else no) := by
  cases hall : (List.range n).all p with
  | true =>
    rw [cond_true]
    exact loop_seq f T yes n (fun i hi => hn i hi (List.all_eq_true.1 hall i (List.mem_range.2 hi))) he
  | false =>
    rw [cond_false]
    have hex : ∃ i, i < n ∧ p i = false := by
      have : ¬ ∀ i ∈ List.range n, p i = true := fun h => by rw [List.all_eq_true.2 h] at hall; cases hall
      simpa using this
    let P : Nat → Prop := fun m => m < n ∧ p m = false
    obtain ⟨m, hm⟩ := hex
    have key : ∀ m, m < n → p m = false → ∃ k, k < n ∧ p k = false ∧ ∀ j, j < k → p j = true := by
      intro m
      induction m using Nat.strongRecOn with
      | ind m ih =>
        intro h1 h2
        by_cases h : ∃ j, j < m ∧ p j = false
        · obtain ⟨j, hj, hpj⟩ := h
          exact ih j hj (by omega) hpj
        · refine ⟨m, h1, h2, fun j hj => ?_⟩
          cases hpj : p j with
          | true => rfl
          | false => exact (h ⟨j, hj, hpj⟩).elim
    obtain ⟨k, hk, hpk, hlt⟩ := key m hm.1 hm.2
    rw [loop_seq_part f T k (fun i hi => hn i (by omega) (hlt i hi))]
    exact loopO_done (hf k hk hpk)

theorem all_range {n : Nat} {p : Nat → Bool} : (List.range n).all p = true ↔ ∀ i, i < n → p i = true := by
  rw [List.all_eq_true]
  exact ⟨fun h i hi => h i (List.mem_range.2 hi), fun h i hi => h i (List.mem_range.1 hi)⟩
theorem nat_nat (i : Nat) : ((i : Int)).toNat = i := Int.toNat_natCast i
theorem w1 {i : Nat} (h : i < 4611686018427387904) : w64 ((i : Int) + 1) = ((i + 1 : Nat) : Int) := by rw [w64_of (by omega) (by omega)]; omega
theorem dlt {i n : Nat} : decide (((i : Nat) : Int) < ((n : Nat) : Int)) = decide (i < n) := by simp
theorem dlt_t {i n : Nat} (h : i < n) : decide (((i : Nat) : Int) < ((n : Nat) : Int)) = true := by simpa using h
theorem dlt_f {n : Nat} : decide (((n : Nat) : Int) < ((n : Nat) : Int)) = false := by simp
theorem inb {i n : Nat} (h : i < n) : InB ((i : Nat) : Int) n := inB_nat h
theorem inbz {x : Int} {n : Nat} (h0 : 0 ≤ x) (h1 : x < n) : InB x n := ⟨h0, h1⟩
theorem room_big : (64 : Nat) ≤ room := by decide

/-! ### Which may be -/
/-- One element of a list of places: more than the one ahead, and a place. -/
def okAt (n : Nat) (l : List Int) (i : Nat) : Bool := decide ((if i = 0 then (-1 : Int) else l.getD (i - 1) 0) < l.getD i 0) && (decide (0 ≤ l.getD i 0) && decide (l.getD i 0 < n))
def okL (n : Nat) (l : List Int) : Bool := (List.range l.length).all (okAt n l)
def mayS (L : List (List Int)) : Bool := decide (1 ≤ L.length) && decide (L.length ≤ 64) && (List.range L.length).all fun i => okL L.length (L.getD i [])
def goesB (L : List (List Int)) (k i : Nat) : Bool := (L.getD k []).contains (i : Int)
/-- Those that go on at 'i', of the first 'm'. -/
def predAt (L : List (List Int)) (m i : Nat) : List Int := ((List.range m).filter fun k => goesB L k i).map Int.ofNat
def predOf (L : List (List Int)) : List (List Int) := (List.range L.length).map (predAt L L.length)

theorem m_isPlace (a n : Int) : m_graph_isPlace a n = some (decide (0 ≤ a) && decide (a < n)) := by
  unfold m_graph_isPlace
  cases decide ((0 : Int) ≤ a) <;> rfl
theorem m_isCount (n : Nat) : m_graph_isCount (n : Int) = some (decide (1 ≤ n) && decide (n ≤ 64)) := by
  unfold m_graph_isCount
  have h1 : decide ((1 : Int) ≤ (n : Int)) = decide (1 ≤ n) := by apply decide_eq_decide.2; omega
  have h2 : decide ((n : Int) ≤ (64 : Int)) = decide (n ≤ 64) := by apply decide_eq_decide.2; omega
  rw [h1, h2]
  cases decide (1 ≤ n) <;> rfl

theorem succMay_L1 (L : List (List Int)) (i : Nat) (hl : (L.getD i []).length < 4611686018427387904) :
    loopO (m_graph_succMay_L1 L (i : Int)) ((-1 : Int), (0 : Int)) = some (bif okL L.length (L.getD i []) then .inl () else .inr false) := by
  refine loop_find (m_graph_succMay_L1 L (i : Int)) (fun j => ((if j = 0 then (-1 : Int) else (L.getD i []).getD (j - 1) 0), ((j : Nat) : Int))) (okAt L.length (L.getD i [])) (.inl ()) (.inr false) _ (fun j hj hp => ?_) (fun j hj hp => ?_) ?_
  · unfold okAt at hp
    simp only [Bool.and_eq_true, decide_eq_true_eq] at hp
    obtain ⟨h1, h2, h3⟩ := hp
    show m_graph_succMay_L1 L (i : Int) (_, _) = _
    unfold m_graph_succMay_L1
    simp only [nat_nat, dlt_t hj, cond_true, m_isPlace]
    rw [chk_pos (inb hj)]
    have e1 : decide ((L.getD i []).getD j 0 ≤ (if j = 0 then (-1 : Int) else (L.getD i []).getD (j - 1) 0)) = false := by simpa using h1
    simp only [e1, decide_eq_true h2, decide_eq_true h3, Bool.and_self, beq_self_eq_true, cond_true, cond_false, Option.bind_some, Bool.not_true]
    rw [w1 (show j < 4611686018427387904 by omega)]
    simp
  · show m_graph_succMay_L1 L (i : Int) (_, _) = _
    unfold m_graph_succMay_L1
    simp only [nat_nat, dlt_t hj, cond_true, m_isPlace]
    rw [chk_pos (inb hj)]
    cases h1 : decide ((L.getD i []).getD j 0 ≤ (if j = 0 then (-1 : Int) else (L.getD i []).getD (j - 1) 0)) with
    | true => simp only [cond_true, show ((true == false) = false) from rfl, cond_false, Option.bind_some]
    | false =>
      have h1' : decide ((if j = 0 then (-1 : Int) else (L.getD i []).getD (j - 1) 0) < (L.getD i []).getD j 0) = true := by simpa using h1
      unfold okAt at hp
      rw [h1', Bool.true_and] at hp
      simp only [beq_self_eq_true, cond_true, cond_false, Option.bind_some, hp, Bool.not_false]
  · show m_graph_succMay_L1 L (i : Int) (_, _) = _
    unfold m_graph_succMay_L1
    simp only [nat_nat, dlt_f, cond_false]

/-- No list is longer than any machine's memory. -/
def Fits (L : List (List Int)) : Prop := L.length < 4611686018427387904 ∧ ∀ l ∈ L, l.length < 4611686018427387904
theorem Fits.at {L : List (List Int)} (h : Fits L) (i : Nat) : (L.getD i []).length < 4611686018427387904 := by
  by_cases hi : i < L.length
  · exact h.2 _ (getD_mem hi)
  · rw [List.getD_eq_getElem?_getD, List.getElem?_eq_none (by omega)]; simp
theorem m_succMay (L : List (List Int)) (h : Fits L) : m_graph_succMay L = some (mayS L) := by
  unfold m_graph_succMay
  rw [m_isCount, Option.bind_some]
  unfold mayS
  cases hc : (decide (1 ≤ L.length) && decide (L.length ≤ 64)) with
  | false => rfl
  | true =>
    simp only [Bool.not_true, cond_false, Bool.true_and]
    have := loop_find (m_graph_succMay_L2 L) (fun j => ((j : Nat) : Int)) (fun i => okL L.length (L.getD i [])) (.inl ()) (.inr false) L.length (fun j hj hp => ?_) (fun j hj hp => ?_) ?_
    · rw [show loopO (m_graph_succMay_L2 L) (0 : Int) = _ from this]
      cases (List.range L.length).all fun i => okL L.length (L.getD i []) <;> rfl
    · show m_graph_succMay_L2 L (j : Int) = _
      unfold m_graph_succMay_L2
      simp only [dlt_t hj, cond_true]
      rw [chk_pos (inb hj), succMay_L1 L j (h.at j), hp]
      simp only [cond_true, Option.bind_some, w1 (show j < 4611686018427387904 by have := h.1; omega)]
    · show m_graph_succMay_L2 L (j : Int) = _
      unfold m_graph_succMay_L2
      simp only [dlt_t hj, cond_true]
      rw [chk_pos (inb hj), succMay_L1 L j (h.at j), hp]
      rfl
    · show m_graph_succMay_L2 L _ = _
      unfold m_graph_succMay_L2
      simp only [dlt_f, cond_false]
end Go.Proofs.Ytlkcijaejngomaa

namespace Go.Proofs.Ytlkcijaejngomaa
open Go Go.RowKit
set_option linter.unusedVariables false
set_option linter.unusedSimpArgs false

theorem getD_mr {α : Type} {n i : Nat} {g : Nat → α} {d : α} (h : i < n) : ((List.range n).map g).getD i d = g i := by simp [List.getD, h]
theorem set_mr {α : Type} {n i : Nat} {g : Nat → α} {x : α} : ((List.range n).map g).set i x = (List.range n).map fun j => if j = i then x else g j := by
  apply List.ext_getElem?
  intro j
  rw [List.getElem?_set]
  by_cases hj : j < n
  · by_cases hij : i = j
    · subst hij; simp [hj]
    · simp [hij, hj, Ne.symm hij]
  · simp [hj]
    intro h; omega
theorem mr_congr {α : Type} {n : Nat} {g h : Nat → α} (H : ∀ i, i < n → g i = h i) : (List.range n).map g = (List.range n).map h := List.map_congr_left fun i hi => H i (List.mem_range.1 hi)

theorem mayS_iff {L : List (List Int)} : mayS L = true ↔ 1 ≤ L.length ∧ L.length ≤ 64 ∧ ∀ i, i < L.length → okL L.length (L.getD i []) = true := by
  unfold mayS
  rw [Bool.and_eq_true, Bool.and_eq_true, all_range]
  simp only [decide_eq_true_eq]
  exact ⟨fun ⟨⟨a, b⟩, c⟩ => ⟨a, b, c⟩, fun ⟨a, b, c⟩ => ⟨⟨a, b⟩, c⟩⟩
theorem okL_iff {n : Nat} {l : List Int} : okL n l = true ↔ ∀ i, i < l.length → (0 ≤ l.getD i 0 ∧ l.getD i 0 < n) ∧ (0 < i → l.getD (i - 1) 0 < l.getD i 0) := by
  unfold okL
  rw [all_range]
  unfold okAt
  simp only [Bool.and_eq_true, decide_eq_true_eq]
  constructor
  · intro h i hi
    obtain ⟨h1, h2, h3⟩ := h i hi
    refine ⟨⟨h2, h3⟩, fun hp => ?_⟩
    rwa [if_neg (by omega)] at h1
  · intro h i hi
    obtain ⟨⟨h2, h3⟩, h1⟩ := h i hi
    refine ⟨?_, h2, h3⟩
    by_cases hz : i = 0
    · rw [if_pos hz]; omega
    · rw [if_neg hz]; exact h1 (by omega)
section
variable {n : Nat} {l : List Int} (h : okL n l = true)
include h
theorem okL_at {i : Nat} (hi : i < l.length) : 0 ≤ l.getD i 0 ∧ l.getD i 0 < n := (okL_iff.1 h i hi).1
theorem okL_lt {i j : Nat} (hij : i < j) (hj : j < l.length) : l.getD i 0 < l.getD j 0 := by
  induction j with
  | zero => omega
  | succ j ih =>
    have h1 := (okL_iff.1 h (j + 1) hj).2 (by omega)
    rw [show j + 1 - 1 = j by omega] at h1
    by_cases he : i = j
    · rw [he]; exact h1
    · exact Int.lt_trans (ih (by omega) (by omega)) h1
theorem okL_ge {i : Nat} (hi : i < l.length) : (i : Int) ≤ l.getD i 0 := by
  induction i with
  | zero => exact (okL_at h hi).1
  | succ i ih =>
    have := okL_lt h (show i < i + 1 by omega) hi
    have := ih (by omega)
    omega
theorem okL_len : l.length ≤ n := by
  by_cases hz : l.length = 0
  · omega
  · have h1 := okL_ge h (show l.length - 1 < l.length by omega)
    have h2 := (okL_at h (show l.length - 1 < l.length by omega)).2
    omega
theorem okL_mem {x : Int} (hx : x ∈ l) : 0 ≤ x ∧ x < n := by
  obtain ⟨i, hi, rfl⟩ := List.getElem_of_mem hx
  have := okL_at h hi
  rwa [getD_eq_of_lt _ _ _ hi] at this
theorem okL_pair : l.Pairwise (· < ·) := by
  rw [List.pairwise_iff_getElem]
  intro i j hi hj hij
  have := okL_lt h hij hj
  rwa [getD_eq_of_lt _ _ _ hi, getD_eq_of_lt _ _ _ hj] at this
end
theorem okL_of {n : Nat} {l : List Int} (h1 : ∀ x ∈ l, 0 ≤ x ∧ x < n) (h2 : l.Pairwise (· < ·)) : okL n l = true := by
  rw [okL_iff]
  intro i hi
  rw [getD_eq_of_lt _ _ _ hi]
  refine ⟨h1 _ (List.getElem_mem hi), fun hp => ?_⟩
  rw [getD_eq_of_lt _ _ _ (show i - 1 < l.length by omega)]
  exact (List.pairwise_iff_getElem.1 h2) _ _ _ _ (by omega)
theorem mayS_fits {L : List (List Int)} (h : mayS L = true) : L.length ≤ 64 ∧ ∀ l ∈ L, l.length ≤ 64 := by
  obtain ⟨h1, h2, h3⟩ := mayS_iff.1 h
  refine ⟨h2, fun l hl => ?_⟩
  obtain ⟨i, hi, rfl⟩ := List.getElem_of_mem hl
  have := okL_len (h3 i hi)
  rw [getD_eq_of_lt _ _ _ hi] at this
  omega
theorem fits_of {L : List (List Int)} (h : L.length ≤ 1000 ∧ ∀ l ∈ L, l.length ≤ 1000) : Fits L := ⟨by omega, fun l hl => by have := h.2 l hl; omega⟩

/-! ### Copies -/
theorem m_clone (l : List Int) (h : l.length ≤ room) : m_slices_Clone_int_int l = some l := by
  unfold m_slices_Clone_int_int
  rw [chk_pos (by simpa using h)]
  simp
theorem m_copied (L : List (List Int)) (h : L.length ≤ 1000 ∧ ∀ l ∈ L, l.length ≤ 1000) : m_graph_copied L = some L := by
  have hroom : (1000 : Nat) ≤ room := by decide
  unfold m_graph_copied
  rw [chk_pos ⟨by omega, Int.le_refl _, by omega⟩, nat_nat]
  have : loopO (m_graph_copied_L1 L) ((0 : Int), (List.range L.length).map fun i => if i < 0 then L.getD i [] else []) = some L := loop_seq (m_graph_copied_L1 L) (fun j => (((j : Nat) : Int), (List.range L.length).map fun i => if i < j then L.getD i [] else [])) L L.length (fun j hj => ?_) ?_
  · have e0 : (List.replicate L.length ([] : List Int)) = (List.range L.length).map fun i => if i < 0 then L.getD i [] else [] := by
      apply List.ext_getElem?
      intro i
      by_cases hi : i < L.length <;> simp [hi, List.getElem?_replicate]
    rw [e0, this]; rfl
  · show m_graph_copied_L1 L (_, _) = _
    unfold m_graph_copied_L1
    simp only [nat_nat, dlt_t hj, cond_true]
    rw [chk_pos (inb hj), m_clone _ (by have := h.2 _ (getD_mem (d := []) hj); omega), Option.bind_some, chk_pos (inb (by simpa using hj)), set_mr, w1 (by omega)]
    congr 3
    apply mr_congr
    intro i hi
    by_cases h1 : i = j
    · subst h1; simp
    · by_cases h2 : i < j
      · simp [h1, h2, show i < j + 1 by omega]
      · simp [h1, h2, show ¬ i < j + 1 by omega]
  · show m_graph_copied_L1 L (_, _) = _
    unfold m_graph_copied_L1
    simp only [dlt_f, cond_false]
    congr 2
    apply List.ext_getElem?
    intro i
    by_cases hi : i < L.length
    · simp [hi]
    · simp [hi]

/-! ### Who goes on at whom -/
theorem predAt_succ (L : List (List Int)) (k i : Nat) : predAt L (k + 1) i = predAt L k i ++ (if goesB L k i = true then [(k : Int)] else []) := by
  unfold predAt
  rw [List.range_succ, List.filter_append, List.map_append]
  congr 1
  cases hg : goesB L k i <;> simp [hg]
theorem predAt_len (L : List (List Int)) (k i : Nat) : (predAt L k i).length ≤ k := by
  unfold predAt
  rw [List.length_map]
  have := List.length_filter_le (fun k => goesB L k i) (List.range k)
  simpa using this
theorem getD_take {l : List Int} {j : Nat} (hj : j < l.length) : l.take (j + 1) = l.take j ++ [l.getD j 0] := by
  rw [getD_eq_of_lt _ _ _ hj, List.take_succ_eq_append_getElem hj]
def inTake (L : List (List Int)) (k j i : Nat) : Bool := ((L.getD k []).take j).contains (i : Int)
def rowsAt (L : List (List Int)) (k j : Nat) : List (List Int) := (List.range L.length).map fun i => predAt L k i ++ (if inTake L k j i = true then [(k : Int)] else [])
theorem comers_step (L : List (List Int)) (h : mayS L = true) (k j : Nat) (hk : k < L.length) (hj : j < (L.getD k []).length) :
    (rowsAt L k j).set ((L.getD k []).getD j 0).toNat ((rowsAt L k j).getD ((L.getD k []).getD j 0).toNat [] ++ [(k : Int)]) = rowsAt L k (j + 1) := by
  obtain ⟨h1, h2, h3⟩ := mayS_iff.1 h
  have hok := h3 k hk
  obtain ⟨a0, a1⟩ := okL_at hok hj
  unfold rowsAt
  rw [getD_mr (by omega), set_mr]
  apply mr_congr
  intro i hi
  have hnot : inTake L k j ((L.getD k []).getD j 0).toNat = false := by
    unfold inTake
    rw [Int.toNat_of_nonneg a0]
    cases hc : ((L.getD k []).take j).contains ((L.getD k []).getD j 0) with
    | false => rfl
    | true =>
      rw [List.contains_iff_mem] at hc
      obtain ⟨m, hm, he⟩ := List.getElem_of_mem hc
      have hm' : m < j := by simp at hm; omega
      rw [List.getElem_take] at he
      have := okL_lt hok hm' hj
      rw [getD_eq_of_lt _ _ _ (show m < (L.getD k []).length by omega), he] at this
      omega
  by_cases hi2 : i = ((L.getD k []).getD j 0).toNat
  · rw [if_pos hi2, hnot]
    have : inTake L k (j + 1) i = true := by
      unfold inTake
      rw [getD_take hj, List.contains_iff_mem, hi2, Int.toNat_of_nonneg a0]
      simp
    rw [this, hi2]
    simp
  · rw [if_neg hi2]
    have : inTake L k (j + 1) i = inTake L k j i := by
      unfold inTake
      rw [getD_take hj, Bool.eq_iff_iff, List.contains_iff_mem, List.contains_iff_mem, List.mem_append]
      constructor
      · rintro (hm | hm)
        · exact hm
        · simp only [List.mem_singleton] at hm; exact (hi2 (by omega)).elim
      · exact .inl
    rw [this]
theorem m_comers (L : List (List Int)) (h : mayS L = true) : m_graph_comers L = some (predOf L) := by
  obtain ⟨h1, h2, h3⟩ := mayS_iff.1 h
  have hroom : (1000 : Nat) ≤ room := by decide
  unfold m_graph_comers
  rw [chk_pos ⟨by omega, Int.le_refl _, by omega⟩, nat_nat]
  have inner : ∀ k, k < L.length → loopO (m_graph_comers_L1 L (k : Int)) ((0 : Int), rowsAt L k 0) = some (rowsAt L k (L.getD k []).length) := fun k hk => by
    have hok := h3 k hk
    refine loop_seq (m_graph_comers_L1 L (k : Int)) (fun j => (((j : Nat) : Int), rowsAt L k j)) (rowsAt L k (L.getD k []).length) (L.getD k []).length (fun j hj => ?_) ?_
    · obtain ⟨a0, a1⟩ := okL_at hok hj
      have hlen : (rowsAt L k j).length = L.length := by simp [rowsAt]
      have hl64 := okL_len hok
      show m_graph_comers_L1 L (k : Int) (_, _) = _
      unfold m_graph_comers_L1
      simp only [nat_nat, dlt_t hj, cond_true]
      have hb : InB ((L.getD k []).getD j 0) (rowsAt L k j).length := ⟨a0, by rw [hlen]; exact a1⟩
      have hrow : ((rowsAt L k j).getD ((L.getD k []).getD j 0).toNat []).length ≤ k + 1 := by
        unfold rowsAt
        rw [getD_mr (by omega), List.length_append]
        have := predAt_len L k ((L.getD k []).getD j 0).toNat
        split
        · rw [List.length_singleton]; omega
        · rw [List.length_nil]; omega
      rw [chk_pos (inb hj), chk_pos hb, chk_pos hb, chk_pos (by simp only [List.length_singleton]; omega), chk_pos hb, comers_step L h k j hk hj, w1 (by omega)]
    · show m_graph_comers_L1 L (k : Int) (_, _) = _
      unfold m_graph_comers_L1
      simp only [nat_nat, dlt_f, cond_false]
  have r0 : ∀ k, rowsAt L k 0 = (List.range L.length).map (predAt L k) := fun k => by
    unfold rowsAt
    apply mr_congr
    intro i _
    simp [inTake]
  have r1 : ∀ k, rowsAt L k (L.getD k []).length = (List.range L.length).map (predAt L (k + 1)) := fun k => by
    unfold rowsAt
    apply mr_congr
    intro i _
    rw [predAt_succ]
    unfold inTake goesB
    rw [List.take_length]
  have : loopO (m_graph_comers_L2 L) ((0 : Int), (List.range L.length).map (predAt L 0)) = some (predOf L) := loop_seq (m_graph_comers_L2 L) (fun k => (((k : Nat) : Int), (List.range L.length).map (predAt L k))) (predOf L) L.length (fun k hk => ?_) ?_
  · have e0 : (List.replicate L.length ([] : List Int)) = (List.range L.length).map (predAt L 0) := by
      apply List.ext_getElem?
      intro i
      by_cases hi : i < L.length <;> simp [hi, List.getElem?_replicate, predAt]
    rw [e0, this]; rfl
  · show m_graph_comers_L2 L (_, _) = _
    unfold m_graph_comers_L2
    simp only [dlt_t hk, cond_true]
    rw [chk_pos (inb hk), ← r0, inner k hk, r1, w1 (by omega)]
    rfl
  · show m_graph_comers_L2 L (_, _) = _
    unfold m_graph_comers_L2
    simp only [dlt_f, cond_false]
    rfl
end Go.Proofs.Ytlkcijaejngomaa

namespace Go.Proofs.Ytlkcijaejngomaa
open Go Go.RowKit
set_option linter.unusedVariables false
set_option linter.unusedSimpArgs false

theorem list_eq_all {α : Type} [DecidableEq α] {a b : List α} {d : α} (h : a.length = b.length) : ((List.range a.length).all fun i => decide (a.getD i d = b.getD i d)) = decide (a = b) := by
  rw [Bool.eq_iff_iff, all_range, decide_eq_true_eq]
  constructor
  · intro hall
    apply List.ext_getElem h
    intro i h1 h2
    have := of_decide_eq_true (hall i h1)
    rwa [getD_eq_of_lt _ _ _ h1, getD_eq_of_lt _ _ _ h2] at this
  · rintro rfl i _
    simp
theorem lens_ne {a b : Nat} : (((a : Nat) : Int) != (b : Int)) = decide (a ≠ b) := by
  rw [Bool.eq_iff_iff, bne_iff_ne, decide_eq_true_eq]
  omega
theorem int_ne {a b : Int} : (a != b) = !decide (a = b) := by
  rw [Bool.eq_iff_iff]
  simp
theorem m_equal (a b : List Int) (hb : b.length < 4611686018427387904) : m_slices_Equal_int_int a b = some (decide (a = b)) := by
  unfold m_slices_Equal_int_int
  rw [lens_ne]
  by_cases hl : a.length = b.length
  · rw [decide_eq_false (by simpa using hl), cond_false]
    have : loopO (m_slices_Equal_int_int_L1 a b) (0 : Int) = _ := loop_find (m_slices_Equal_int_int_L1 a b) (fun j => ((j : Nat) : Int)) (fun i => decide (a.getD i 0 = b.getD i 0)) (.inl ()) (.inr false) a.length (fun j hj hp => ?_) (fun j hj hp => ?_) ?_
    · rw [this, list_eq_all hl]
      cases decide (a = b) <;> rfl
    · show m_slices_Equal_int_int_L1 a b (j : Int) = _
      unfold m_slices_Equal_int_int_L1
      simp only [nat_nat, dlt_t hj, cond_true]
      rw [chk_pos (inb hj), chk_pos (inb (by omega)), int_ne, hp, w1 (by omega)]
      rfl
    · show m_slices_Equal_int_int_L1 a b (j : Int) = _
      unfold m_slices_Equal_int_int_L1
      simp only [nat_nat, dlt_t hj, cond_true]
      rw [chk_pos (inb hj), chk_pos (inb (by omega)), int_ne, hp]
      rfl
    · show m_slices_Equal_int_int_L1 a b _ = _
      unfold m_slices_Equal_int_int_L1
      simp only [dlt_f, cond_false]
  · rw [decide_eq_true (by simpa using hl), cond_true, decide_eq_false (fun h => hl (by rw [h]))]
theorem m_ints (a b : List Int) (ha : a.length < 4611686018427387904) : m_lockstepref02_Ints a b = some (decide (a = b)) := by
  unfold m_lockstepref02_Ints
  rw [lens_ne]
  by_cases hl : a.length = b.length
  · rw [decide_eq_false (by simpa using hl), cond_false]
    have : loopO (m_lockstepref02_Ints_L1 a b) (0 : Int) = _ := loop_find (m_lockstepref02_Ints_L1 a b) (fun j => ((j : Nat) : Int)) (fun i => decide (a.getD i 0 = b.getD i 0)) (.inl ()) (.inr false) a.length (fun j hj hp => ?_) (fun j hj hp => ?_) ?_
    · rw [this, list_eq_all hl]
      cases decide (a = b) <;> rfl
    · show m_lockstepref02_Ints_L1 a b (j : Int) = _
      unfold m_lockstepref02_Ints_L1
      simp only [nat_nat, dlt_t hj, cond_true]
      rw [chk_pos (inb hj), chk_pos (inb (by omega)), int_ne, hp, w1 (by omega)]
      rfl
    · show m_lockstepref02_Ints_L1 a b (j : Int) = _
      unfold m_lockstepref02_Ints_L1
      simp only [nat_nat, dlt_t hj, cond_true]
      rw [chk_pos (inb hj), chk_pos (inb (by omega)), int_ne, hp]
      rfl
    · show m_lockstepref02_Ints_L1 a b _ = _
      unfold m_lockstepref02_Ints_L1
      simp only [dlt_f, cond_false]
  · rw [decide_eq_true (by simpa using hl), cond_true, decide_eq_false (fun h => hl (by rw [h]))]
theorem m_equalFunc (a b : List (List Int)) (hb : Fits b) : m_slices_EqualFunc_int_int_int_int a b = some (decide (a = b)) := by
  unfold m_slices_EqualFunc_int_int_int_int
  rw [lens_ne]
  by_cases hl : a.length = b.length
  · rw [decide_eq_false (by simpa using hl), cond_false]
    have hb1 := hb.1
    have : loopO (m_slices_EqualFunc_int_int_int_int_L1 a b) (0 : Int) = _ := loop_find (m_slices_EqualFunc_int_int_int_int_L1 a b) (fun j => ((j : Nat) : Int)) (fun i => decide (a.getD i [] = b.getD i [])) (.inl ()) (.inr false) a.length (fun j hj hp => ?_) (fun j hj hp => ?_) ?_
    · rw [this, list_eq_all hl]
      cases decide (a = b) <;> rfl
    · show m_slices_EqualFunc_int_int_int_int_L1 a b (j : Int) = _
      unfold m_slices_EqualFunc_int_int_int_int_L1
      simp only [nat_nat, dlt_t hj, cond_true]
      rw [chk_pos (inb hj), chk_pos (inb (by omega)), m_equal _ _ (hb.at j), hp, w1 (by omega)]
      rfl
    · show m_slices_EqualFunc_int_int_int_int_L1 a b (j : Int) = _
      unfold m_slices_EqualFunc_int_int_int_int_L1
      simp only [nat_nat, dlt_t hj, cond_true]
      rw [chk_pos (inb hj), chk_pos (inb (by omega)), m_equal _ _ (hb.at j), hp]
      rfl
    · show m_slices_EqualFunc_int_int_int_int_L1 a b _ = _
      unfold m_slices_EqualFunc_int_int_int_int_L1
      simp only [dlt_f, cond_false]
  · rw [decide_eq_true (by simpa using hl), cond_true, decide_eq_false (fun h => hl (by rw [h]))]

theorem predOf_len (L : List (List Int)) : (predOf L).length = L.length := by simp [predOf]
theorem predOf_at {L : List (List Int)} {i : Nat} (hi : i < L.length) : (predOf L).getD i [] = predAt L L.length i := by unfold predOf; rw [getD_mr hi]
theorem predOf_small {L : List (List Int)} (h : mayS L = true) : (predOf L).length ≤ 64 ∧ ∀ l ∈ predOf L, l.length ≤ 64 := by
  obtain ⟨h1, _⟩ := mayS_fits h
  refine ⟨by rw [predOf_len]; exact h1, fun l hl => ?_⟩
  obtain ⟨i, hi, rfl⟩ := List.mem_map.1 hl
  have := predAt_len L L.length i
  omega
theorem small_fits {L : List (List Int)} (h : L.length ≤ 64 ∧ ∀ l ∈ L, l.length ≤ 64) : Fits L := fits_of ⟨by omega, fun l hl => by have := h.2 l hl; omega⟩
theorem small_k {L : List (List Int)} (h : L.length ≤ 64 ∧ ∀ l ∈ L, l.length ≤ 64) : L.length ≤ 1000 ∧ ∀ l ∈ L, l.length ≤ 1000 := ⟨by omega, fun l hl => by have := h.2 l hl; omega⟩

/-- Whether a graph may be. -/
def mayG (g : TGraph) : Bool := mayS g.Succ && decide (g.Pred = predOf g.Succ)
theorem m_may (g : TGraph) (h : Fits g.Succ) : m_graph_May g = some (mayG g) := by
  unfold m_graph_May mayG
  rw [m_succMay _ h, Option.bind_some]
  cases hm : mayS g.Succ with
  | false => rfl
  | true =>
    simp only [beq_self_eq_true, cond_true, m_comers _ hm, Option.bind_some, m_equalFunc _ _ (small_fits (predOf_small hm)), Bool.true_and]
def gOf (L : List (List Int)) : TGraph := ⟨L, predOf L⟩
def g0 : TGraph := ⟨[], []⟩
theorem m_make (L : List (List Int)) (h : Fits L) : m_graph_Make L = some (bif mayS L then (gOf L, 0) else (g0, 5)) := by
  unfold m_graph_Make
  rw [m_succMay _ h, Option.bind_some]
  cases hm : mayS L with
  | false => rfl
  | true =>
    simp only [Bool.not_true, cond_false, m_copied _ (small_k (mayS_fits hm)), m_comers _ hm, Option.bind_some]
    rfl
theorem mayG_gOf {L : List (List Int)} (h : mayS L = true) : mayG (gOf L) = true := by simp [mayG, gOf, h]
theorem m_turned (g : TGraph) (h : Fits g.Succ) : m_graph_Turned g = some (bif mayG g then ⟨g.Pred, g.Succ⟩ else g0) := by
  unfold m_graph_Turned
  rw [m_may _ h, Option.bind_some]
  cases hm : mayG g with
  | false => rfl
  | true =>
    have hm' := hm
    unfold mayG at hm'
    simp only [Bool.and_eq_true, decide_eq_true_eq] at hm'
    simp only [Bool.not_true, cond_false, m_copied _ (small_k (mayS_fits hm'.1)), Option.bind_some]
    rw [m_copied _ (by rw [hm'.2]; exact small_k (predOf_small hm'.1))]
    rfl

/-! ### The document's -/
theorem m_has (l : List Int) (x : Int) (h : l.length < 4611686018427387904) : m_lockstepref06_Has l x = some (l.contains x) := by
  unfold m_lockstepref06_Has
  have : loopO (m_lockstepref06_Has_L1 l x) (0 : Int) = _ := loop_find (m_lockstepref06_Has_L1 l x) (fun j => ((j : Nat) : Int)) (fun i => !decide (l.getD i 0 = x)) (.inl ()) (.inr true) l.length (fun j hj hp => ?_) (fun j hj hp => ?_) ?_
  · rw [this]
    have e : l.contains x = !((List.range l.length).all fun i => !decide (l.getD i 0 = x)) := by
      rw [Bool.eq_iff_iff, List.contains_iff_mem, Bool.not_eq_true', ← Bool.not_eq_true, all_range]
      constructor
      · intro hx hall
        obtain ⟨i, hi, rfl⟩ := List.getElem_of_mem hx
        have := hall i hi
        rw [getD_eq_of_lt _ _ _ hi] at this
        simp at this
      · intro hall
        by_cases hx : x ∈ l
        · exact hx
        · refine (hall fun i hi => ?_).elim
          rw [getD_eq_of_lt _ _ _ hi]
          simp only [Bool.not_eq_true', decide_eq_false_iff_not]
          rintro rfl
          exact hx (List.getElem_mem hi)
    rw [e]
    cases (List.range l.length).all fun i => !decide (l.getD i 0 = x) <;> rfl
  · show m_lockstepref06_Has_L1 l x (j : Int) = _
    unfold m_lockstepref06_Has_L1
    simp only [nat_nat, dlt_t hj, cond_true]
    have : (l.getD j 0 == x) = false := by simpa using hp
    rw [chk_pos (inb hj), this, w1 (by omega)]
    rfl
  · show m_lockstepref06_Has_L1 l x (j : Int) = _
    unfold m_lockstepref06_Has_L1
    simp only [nat_nat, dlt_t hj, cond_true]
    have : (l.getD j 0 == x) = true := by simpa using hp
    rw [chk_pos (inb hj), this]
    rfl
  · show m_lockstepref06_Has_L1 l x _ = _
    unfold m_lockstepref06_Has_L1
    simp only [dlt_f, cond_false]
theorem same_loop {X : Type} (a b : List (List Int)) (f : Int → Option (LR Int (Unit ⊕ Bool))) (ha : Fits a) (hl : a.length = b.length)
    (hn : ∀ i : Nat, i < a.length → f (i : Int) = (m_lockstepref02_Ints (a.getD i []) (b.getD i [])).bind fun x => bif (!x) then some (.done (.inr false)) else some (.next (w64 ((i : Int) + 1)))) (he : f (a.length : Int) = some (.done (.inl ()))) :
    loopO f (0 : Int) = some (bif decide (a = b) then .inl () else .inr false) := by
  have ha1 := ha.1
  have : loopO f (0 : Int) = _ := loop_find f (fun j => ((j : Nat) : Int)) (fun i => decide (a.getD i [] = b.getD i [])) (.inl ()) (.inr false) a.length (fun j hj hp => ?_) (fun j hj hp => ?_) he
  · rw [this, list_eq_all hl]
  · rw [hn j hj, m_ints _ _ (ha.at j), hp, w1 (by omega)]; rfl
  · rw [hn j hj, m_ints _ _ (ha.at j), hp]; rfl
end Go.Proofs.Ytlkcijaejngomaa

namespace Go.Proofs.Ytlkcijaejngomaa
open Go Go.RowKit
set_option linter.unusedVariables false
set_option linter.unusedSimpArgs false

theorem chk_imp {R : Type} {c : Bool} {q : Prop} [Decidable q] {k : Option R} (h : q) : chk (c = true → q) k = k := chk_pos fun _ => h
theorem chk_off {R : Type} {q : Prop} [Decidable q] {k : Option R} : chk (false = true → q) k = k := chk_pos (by intro h; cases h)
/-- What the document says of one element. -/
def badAt (n : Nat) (l : List Int) (j : Nat) : Bool :=
  bif (bif decide (l.getD j 0 < 0) then true else decide ((n : Int) ≤ l.getD j 0)) then true else (bif decide ((0 : Int) < (j : Int)) then decide (l.getD j 0 ≤ l.getD (j - 1) 0) else false)
theorem bad_ok (n : Nat) (l : List Int) (j : Nat) : badAt n l j = !okAt n l j := by
  unfold badAt okAt
  by_cases h0 : l.getD j 0 < 0
  · have h1 : decide (0 ≤ l.getD j 0) = false := by simpa using h0
    rw [decide_eq_true h0, h1]; simp
  · have h1 : decide (0 ≤ l.getD j 0) = true := by simpa using h0
    rw [decide_eq_false h0, h1]
    by_cases h2 : (n : Int) ≤ l.getD j 0
    · have h3 : decide (l.getD j 0 < (n : Int)) = false := by simpa using h2
      rw [decide_eq_true h2, h3]; simp
    · have h3 : decide (l.getD j 0 < (n : Int)) = true := by simpa using h2
      rw [decide_eq_false h2, h3]
      by_cases hj : j = 0
      · subst hj
        have h4 : decide ((-1 : Int) < l.getD 0 0) = true := decide_eq_true (by omega)
        rw [if_pos rfl, h4]; simp
      · rw [if_neg hj, decide_eq_true (show (0 : Int) < (j : Int) by omega)]
        by_cases h5 : l.getD j 0 ≤ l.getD (j - 1) 0
        · rw [decide_eq_true h5, decide_eq_false (show ¬ l.getD (j - 1) 0 < l.getD j 0 by omega)]; rfl
        · rw [decide_eq_false h5, decide_eq_true (show l.getD (j - 1) 0 < l.getD j 0 by omega)]; rfl
theorem gOf_fits {L : List (List Int)} (h : mayS L = true) : Fits (gOf L).Succ ∧ Fits (gOf L).Pred := ⟨small_fits (mayS_fits h), small_fits (predOf_small h)⟩
/-- Which are gone through. -/
def smallS (L : List (List Int)) : Bool := (List.range L.length).all fun i => decide ((L.getD i []).length ≤ 100) && decide (i ≤ 100)
theorem m_small (L : List (List Int)) (hL : L.length < 9223372036854775808) : m_lockstepref06_Small L = some (smallS L) := by
  unfold m_lockstepref06_Small
  have step : ∀ j : Nat, j < L.length → m_lockstepref06_Small_L1 L (j : Int) = bif (decide ((L.getD j []).length ≤ 100) && decide (j ≤ 100)) then some (.next (((j + 1 : Nat) : Int))) else some (.done (.inr false)) := fun j hj => by
    unfold m_lockstepref06_Small_L1
    simp only [nat_nat, dlt_t hj, cond_true]
    rw [chk_pos (inb hj)]
    have hw : w64 ((j : Int) + 1) = ((j + 1 : Nat) : Int) := by rw [w64_of (by omega) (by omega)]; omega
    rw [hw]
    by_cases h1 : (L.getD j []).length ≤ 100
    · rw [decide_eq_true h1, decide_eq_false (show ¬ (100 : Int) < ((L.getD j []).length : Int) by omega)]
      by_cases h2 : j ≤ 100
      · rw [decide_eq_true h2, decide_eq_false (show ¬ (100 : Int) < (j : Int) by omega)]; rfl
      · rw [decide_eq_false h2, decide_eq_true (show (100 : Int) < (j : Int) by omega)]; rfl
    · rw [decide_eq_false h1, decide_eq_true (show (100 : Int) < ((L.getD j []).length : Int) by omega)]; rfl
  have : loopO (m_lockstepref06_Small_L1 L) (0 : Int) = _ := loop_find (m_lockstepref06_Small_L1 L) (fun j => ((j : Nat) : Int)) (fun i => decide ((L.getD i []).length ≤ 100) && decide (i ≤ 100)) (.inl ()) (.inr false) L.length (fun j hj hp => ?_) (fun j hj hp => ?_) ?_
  · rw [this]
    unfold smallS
    cases (List.range L.length).all fun i => decide ((L.getD i []).length ≤ 100) && decide (i ≤ 100) <;> rfl
  · show m_lockstepref06_Small_L1 L (j : Int) = _
    rw [step j hj, hp]; rfl
  · show m_lockstepref06_Small_L1 L (j : Int) = _
    rw [step j hj, hp]; rfl
  · show m_lockstepref06_Small_L1 L _ = _
    unfold m_lockstepref06_Small_L1
    simp only [dlt_f, cond_false]
theorem smallS_fits {L : List (List Int)} (h : smallS L = true) : Fits L := by
  unfold smallS at h
  rw [all_range] at h
  simp only [Bool.and_eq_true, decide_eq_true_eq] at h
  refine fits_of ⟨?_, fun l hl => ?_⟩
  · by_cases h0 : L.length = 0
    · omega
    · have := (h (L.length - 1) (by omega)).2; omega
  · obtain ⟨i, hi, rfl⟩ := List.getElem_of_mem hl
    have := (h i hi).1
    rw [getD_eq_of_lt _ _ _ hi] at this
    omega
end Go.Proofs.Ytlkcijaejngomaa

namespace Go.Proofs.Ytlkcijaejngomaa
open Go Go.RowKit
set_option linter.unusedVariables false
set_option linter.unusedSimpArgs false

def upd (s : Nat → Bool) (y : Nat) : Nat → Bool := fun z => decide (z = y) || s z
theorem upd_true {s : Nat → Bool} {y z : Nat} : upd s y z = true ↔ z = y ∨ s z = true := by simp [upd]
theorem upd_false {s : Nat → Bool} {y z : Nat} : upd s y z = false ↔ z ≠ y ∧ s z = false := by simp [upd]

inductive VL (S : Nat → List Nat) : (Nat → Bool) → List Nat → (Nat → Bool) → List Nat → Prop
  | nil (s : Nat → Bool) : VL S s [] s []
  | skip {s s' : Nat → Bool} {y : Nat} {l o : List Nat} (h : s y = true) (t : VL S s l s' o) : VL S s (y :: l) s' o
  | step {s s1 s2 : Nat → Bool} {y : Nat} {l o1 o2 : List Nat} (h : s y = false) (a : VL S (upd s y) (S y) s1 o1) (b : VL S s1 l s2 o2) : VL S s (y :: l) s2 (o1 ++ y :: o2)
inductive Rch (S : Nat → List Nat) : Nat → Nat → Prop
  | refl (x : Nat) : Rch S x x
  | head {x y z : Nat} (h : y ∈ S x) (t : Rch S y z) : Rch S x z
theorem Rch.tail {S : Nat → List Nat} {x y z : Nat} (h : Rch S x y) (hz : z ∈ S y) : Rch S x z := by
  induction h with
  | refl x => exact .head hz (.refl _)
  | head h _ ih => exact .head h (ih hz)
theorem Rch.trans {S : Nat → List Nat} {x y z : Nat} (h : Rch S x y) (k : Rch S y z) : Rch S x z := by
  induction h with
  | refl x => exact k
  | head h _ ih => exact .head h (ih k)

variable {S : Nat → List Nat} {s s' : Nat → Bool} {l o : List Nat}
theorem VL.seen (h : VL S s l s' o) (z : Nat) : s' z = true ↔ s z = true ∨ z ∈ o := by
  induction h with
  | nil s => simp
  | skip h _ ih => exact ih
  | @step s s1 s2 y l o1 o2 h a b iha ihb =>
    rw [ihb, iha, upd_true]
    simp only [List.mem_append, List.mem_cons]
    constructor
    · rintro ((( rfl | h1) | h1) | h1)
      · exact .inr (.inr (.inl rfl))
      · exact .inl h1
      · exact .inr (.inl h1)
      · exact .inr (.inr (.inr h1))
    · rintro (h1 | h1 | rfl | h1)
      · exact .inl (.inl (.inr h1))
      · exact .inl (.inr h1)
      · exact .inl (.inl (.inl rfl))
      · exact .inr h1
theorem VL.fresh (h : VL S s l s' o) {z : Nat} (hz : z ∈ o) : s z = false := by
  induction h with
  | nil s => cases hz
  | skip h _ ih => exact ih hz
  | @step s s1 s2 y l o1 o2 h a b iha ihb =>
    rcases List.mem_append.1 hz with h1 | h1
    · exact (upd_false.1 (iha h1)).2
    · rcases List.mem_cons.1 h1 with rfl | h1
      · exact h
      · have := ihb h1
        cases hs : s z with
        | false => rfl
        | true => rw [(a.seen z).2 (.inl (upd_true.2 (.inr hs)))] at this; cases this
theorem VL.nodup (h : VL S s l s' o) : o.Nodup := by
  induction h with
  | nil s => exact List.nodup_nil
  | skip h _ ih => exact ih
  | @step s s1 s2 y l o1 o2 h a b iha ihb =>
    rw [List.nodup_append]
    refine ⟨iha, List.nodup_cons.2 ⟨fun hy => ?_, ihb⟩, fun u hu v hv => ?_⟩
    · have := b.fresh hy
      rw [(a.seen y).2 (.inl (upd_true.2 (.inl rfl)))] at this
      cases this
    · rintro rfl
      rcases List.mem_cons.1 hv with rfl | hv
      · have := a.fresh hu
        rw [upd_true.2 (.inl rfl)] at this
        cases this
      · have := b.fresh hv
        rw [(a.seen u).2 (.inr hu)] at this
        cases this
theorem VL.rch (h : VL S s l s' o) {z : Nat} (hz : z ∈ o) : ∃ y ∈ l, Rch S y z := by
  induction h with
  | nil s => cases hz
  | skip h _ ih => obtain ⟨y, hy, hr⟩ := ih hz; exact ⟨y, List.mem_cons_of_mem _ hy, hr⟩
  | @step s s1 s2 y l o1 o2 h a b iha ihb =>
    rcases List.mem_append.1 hz with h1 | h1
    · obtain ⟨u, hu, hr⟩ := iha h1; exact ⟨y, List.mem_cons_self .., .head hu hr⟩
    · rcases List.mem_cons.1 h1 with rfl | h1
      · exact ⟨z, List.mem_cons_self .., .refl z⟩
      · obtain ⟨u, hu, hr⟩ := ihb h1; exact ⟨u, List.mem_cons_of_mem _ hu, hr⟩
theorem VL.closed (h : VL S s l s' o) : (∀ y ∈ l, s' y = true) ∧ ∀ z ∈ o, ∀ y ∈ S z, s' y = true := by
  induction h with
  | nil s => exact ⟨(fun _ h => by cases h), (fun _ h => by cases h)⟩
  | @skip s s' y l o h t ih =>
    refine ⟨fun u hu => ?_, ih.2⟩
    rcases List.mem_cons.1 hu with rfl | hu
    · exact (t.seen u).2 (.inl h)
    · exact ih.1 u hu
  | @step s s1 s2 y l o1 o2 h a b iha ihb =>
    refine ⟨fun u hu => ?_, fun z hz u hu => ?_⟩
    · rcases List.mem_cons.1 hu with rfl | hu
      · exact (b.seen u).2 (.inl ((a.seen u).2 (.inl (upd_true.2 (.inl rfl)))))
      · exact ihb.1 u hu
    · rcases List.mem_append.1 hz with h1 | h1
      · exact (b.seen u).2 (.inl (iha.2 z h1 u hu))
      · rcases List.mem_cons.1 h1 with rfl | h1
        · exact (b.seen u).2 (.inl (iha.1 u hu))
        · exact ihb.2 z h1 u hu
/-- Where all ways lead forward. -/
theorem VL.above (h : VL S s l s' o) (hf : ∀ z, ∀ y ∈ S z, z < y) {b : Nat} (hb : ∀ y ∈ l, b < y) : ∀ z ∈ o, b < z := by
  induction h generalizing b with
  | nil s => intro z hz; cases hz
  | skip h _ ih => exact ih (fun y hy => hb y (List.mem_cons_of_mem _ hy))
  | @step s s1 s2 y l o1 o2 h a c iha ihb =>
    intro z hz
    have hy := hb y (List.mem_cons_self ..)
    rcases List.mem_append.1 hz with h1 | h1
    · exact iha (fun u hu => Nat.lt_trans hy (hf y u hu)) z h1
    · rcases List.mem_cons.1 h1 with rfl | h1
      · exact hy
      · exact ihb (fun u hu => hb u (List.mem_cons_of_mem _ hu)) z h1
theorem VL.ahead (h : VL S s l s' o) (hf : ∀ z, ∀ y ∈ S z, z < y) : ∀ z ∈ o, ∀ y ∈ S z, s y = true ∨ ∃ A B, o = A ++ z :: B ∧ y ∈ A := by
  induction h with
  | nil s => intro z hz; cases hz
  | skip h _ ih => exact ih
  | @step s s1 s2 y l o1 o2 h a c iha ihb =>
    intro z hz u hu
    rcases List.mem_append.1 hz with h1 | h1
    · have hzy : y < z := a.above hf (fun v hv => hf y v hv) z h1
      have hzu := hf z u hu
      rcases iha z h1 u hu with h2 | ⟨A, B, rfl, hA⟩
      · rcases upd_true.1 h2 with rfl | h2
        · omega
        · exact .inl h2
      · exact .inr ⟨A, B ++ y :: o2, by simp, hA⟩
    · rcases List.mem_cons.1 h1 with rfl | h1z
      · have hzu := hf z u hu
        rcases (a.seen u).1 (a.closed.1 u hu) with h2 | h2
        · rcases upd_true.1 h2 with rfl | h2
          · omega
          · exact .inl h2
        · exact .inr ⟨o1, o2, rfl, h2⟩
      · rcases ihb z h1z u hu with h2 | ⟨A, B, rfl, hA⟩
        · rcases (a.seen u).1 h2 with h3 | h3
          · rcases upd_true.1 h3 with rfl | h3
            · obtain ⟨P, Q, rfl⟩ := List.append_of_mem h1z
              exact .inr ⟨o1 ++ u :: P, Q, by simp, by simp⟩
            · exact .inl h3
          · obtain ⟨P, Q, rfl⟩ := List.append_of_mem h1z
            exact .inr ⟨o1 ++ y :: P, Q, by simp, by simp [h3]⟩
        · exact .inr ⟨o1 ++ y :: A, B, by simp, by simp [hA]⟩

/-- How many of the first 'n' aren't seen. -/
def cnt (n : Nat) (s : Nat → Bool) : Nat := ((List.range n).filter fun z => !s z).length
theorem cnt_upd {n : Nat} {s : Nat → Bool} {y : Nat} (hy : y < n) (h : s y = false) : cnt n (upd s y) + 1 = cnt n s := by
  unfold cnt
  induction n with
  | zero => omega
  | succ n ih =>
    rw [List.range_succ, List.filter_append, List.filter_append, List.length_append, List.length_append]
    by_cases hyn : y = n
    · subst hyn
      have e : (List.range y).filter (fun z => !upd s y z) = (List.range y).filter (fun z => !s z) := by
        apply List.filter_congr
        intro z hz
        have := List.mem_range.1 hz
        simp [upd, show z ≠ y by omega]
      rw [e]
      simp [upd, h]
    · have := ih (by omega)
      have e : ([n].filter fun z => !upd s y z).length = ([n].filter fun z => !s z).length := by
        simp only [List.filter_cons, List.filter_nil, upd]
        simp [Ne.symm hyn]
      omega
theorem cnt_mono {n : Nat} {s s' : Nat → Bool} (h : ∀ z, s z = true → s' z = true) : cnt n s' ≤ cnt n s := by
  unfold cnt
  apply List.Sublist.length_le
  have : (List.range n).filter (fun z => !s' z) = ((List.range n).filter fun z => !s z).filter fun z => !s' z := by
    rw [List.filter_filter]
    apply List.filter_congr
    intro z _
    cases hs : s z with
    | false => simp
    | true => simp [h z hs]
  rw [this]
  exact List.filter_sublist
/-- There is such a way through. -/
theorem VL.exist {n : Nat} (hS : ∀ z, z < n → ∀ y ∈ S z, y < n) : ∀ (m : Nat) (s : Nat → Bool), cnt n s ≤ m → ∀ l : List Nat, (∀ y ∈ l, y < n) → ∃ s' o, VL S s l s' o := by
  intro m
  induction m with
  | zero =>
    intro s hm l
    induction l with
    | nil => intro _; exact ⟨s, [], .nil s⟩
    | cons y l ih =>
      intro hl
      obtain ⟨s', o, h⟩ := ih (fun z hz => hl z (List.mem_cons_of_mem _ hz))
      cases hy : s y with
      | true => exact ⟨s', o, .skip hy h⟩
      | false => have := cnt_upd (hl y (List.mem_cons_self ..)) hy; omega
  | succ m ih =>
    intro s hm l
    induction l generalizing s with
    | nil => intro _; exact ⟨s, [], .nil s⟩
    | cons y l ihl =>
      intro hl
      cases hy : s y with
      | true =>
        obtain ⟨s', o, h⟩ := ihl s hm (fun z hz => hl z (List.mem_cons_of_mem _ hz))
        exact ⟨s', o, .skip hy h⟩
      | false =>
        have hyn := hl y (List.mem_cons_self ..)
        have := cnt_upd hyn hy
        obtain ⟨s1, o1, h1⟩ := ih (upd s y) (by omega) (S y) (hS y hyn)
        have h2 : cnt n s1 ≤ cnt n s := cnt_mono fun z hz => (h1.seen z).2 (.inl (upd_true.2 (.inr hz)))
        obtain ⟨s2, o2, h3⟩ := ihl s1 (by omega) (fun z hz => hl z (List.mem_cons_of_mem _ hz))
        exact ⟨s2, _, .step hy h1 h3⟩

/-! ### From one block on -/
def one (r : Nat) : Nat → Bool := fun z => decide (z = r)
/-- The order from a block on. -/
def Ord (S : Nat → List Nat) (r : Nat) (L : List Nat) : Prop := ∃ s' o, VL S (one r) (S r) s' o ∧ L = r :: o.reverse
theorem Ord.exist {n : Nat} (hS : ∀ z, z < n → ∀ y ∈ S z, y < n) {r : Nat} (hr : r < n) : ∃ L, Ord S r L := by
  obtain ⟨s', o, h⟩ := VL.exist hS _ (one r) (Nat.le_refl _) (S r) (hS r hr)
  exact ⟨_, s', o, h, rfl⟩
theorem Ord.mem {r : Nat} {L : List Nat} (h : Ord S r L) (z : Nat) : z ∈ L ↔ Rch S r z := by
  obtain ⟨s', o, h, rfl⟩ := h
  have hs : ∀ z, s' z = true ↔ z = r ∨ z ∈ o := fun z => by rw [h.seen]; simp [one]
  have hc : ∀ x, s' x = true → ∀ y ∈ S x, s' y = true := fun x hx y hy => by
    rcases (hs x).1 hx with rfl | hx
    · exact h.closed.1 y hy
    · exact h.closed.2 x hx y hy
  simp only [List.mem_cons, List.mem_reverse]
  rw [← hs z]
  constructor
  · intro hz
    rcases (hs z).1 hz with rfl | hz
    · exact .refl _
    · obtain ⟨y, hy, hr⟩ := h.rch hz; exact .head hy hr
  · intro hr
    have key : ∀ x z, Rch S x z → s' x = true → s' z = true := by
      intro x z hxz
      induction hxz with
      | refl x => exact id
      | head hy _ ih => exact fun hx => ih (hc _ hx _ hy)
    exact key r z hr ((hs r).2 (.inl rfl))
theorem Ord.nodup {r : Nat} {L : List Nat} (h : Ord S r L) : L.Nodup := by
  obtain ⟨s', o, h, rfl⟩ := h
  refine List.nodup_cons.2 ⟨fun hr => ?_, (List.reverse_perm o).nodup_iff.2 h.nodup⟩
  have := h.fresh (List.mem_reverse.1 hr)
  simp [one] at this
theorem Ord.fwd {r : Nat} {L : List Nat} (h : Ord S r L) (hf : ∀ z, ∀ y ∈ S z, z < y) : ∀ z ∈ L, ∀ y ∈ S z, ∃ A B, L = A ++ z :: B ∧ y ∈ B := by
  obtain ⟨s', o, h, rfl⟩ := h
  intro z hz y hy
  have hzy := hf z y hy
  rcases List.mem_cons.1 hz with rfl | hz
  · refine ⟨[], o.reverse, rfl, ?_⟩
    rcases (h.seen y).1 (h.closed.1 y hy) with h1 | h1
    · simp [one] at h1; omega
    · exact List.mem_reverse.2 h1
  · have hz := List.mem_reverse.1 hz
    have hrz : r < z := h.above hf (fun v hv => hf r v hv) z hz
    rcases h.ahead hf z hz y hy with h1 | ⟨A, B, rfl, hA⟩
    · simp [one] at h1; omega
    · exact ⟨r :: B.reverse, A.reverse, by simp, List.mem_reverse.2 hA⟩
end Go.Proofs.Ytlkcijaejngomaa

namespace Go.Proofs.Ytlkcijaejngomaa
open Go Go.RowKit
set_option linter.unusedVariables false
set_option linter.unusedSimpArgs false

/-! ### Turned round -/
theorem m_reverse (l : List Int) (hl : l.length < 4611686018427387904) : m_slices_Reverse_int_int l = some l.reverse := by
  unfold m_slices_Reverse_int_int
  by_cases h0 : l.length = 0
  · obtain rfl : l = [] := List.length_eq_zero_iff.1 h0
    have : loopO m_slices_Reverse_int_int_L1 ((0 : Int), (w64 ((([] : List Int).length : Int) - 1)), ([] : List Int)) = some [] := by
      apply loopO_done
      unfold m_slices_Reverse_int_int_L1
      rw [w64_of (by simp) (by simp)]
      rfl
    rw [this]; rfl
  · have hw : w64 ((l.length : Int) - 1) = ((l.length - 1 : Nat) : Int) := by rw [w64_of (by omega) (by omega)]; omega
    rw [hw]
    let C : Nat → List Int := fun k => (List.range l.length).map fun i => if i < k ∨ l.length - 1 - k < i then l.getD (l.length - 1 - i) 0 else l.getD i 0
    have hC : ∀ k i, i < l.length → (C k).getD i 0 = if i < k ∨ l.length - 1 - k < i then l.getD (l.length - 1 - i) 0 else l.getD i 0 := fun k i hi => by simp only [C]; rw [getD_mr hi]
    have hlen : ∀ k, (C k).length = l.length := fun k => by simp [C]
    have := loop_seq m_slices_Reverse_int_int_L1 (fun k => (((k : Nat) : Int), ((l.length - 1 - k : Nat) : Int), C k)) l.reverse (l.length / 2) (fun k hk => ?_) ?_
    · have e0 : C 0 = l := by
        apply List.ext_getElem (by simp [C])
        intro i h1 h2
        have := hC 0 i h2
        rw [getD_eq_of_lt _ _ _ h1, getD_eq_of_lt _ _ _ h2] at this
        rw [this, if_neg (by omega)]
      have this' : loopO m_slices_Reverse_int_int_L1 ((0 : Int), ((l.length - 1 : Nat) : Int), l) = some l.reverse := by
        have h2 := this
        simp only [e0] at h2
        exact h2
      rw [this']; rfl
    · show m_slices_Reverse_int_int_L1 (_, _, _) = _
      unfold m_slices_Reverse_int_int_L1
      have hlt : k < l.length - 1 - k := by omega
      simp only [dlt_t hlt, cond_true, nat_nat]
      rw [chk_pos (inb (by rw [hlen]; omega)), chk_pos (inb (by rw [hlen]; omega)), chk_pos (inb (by rw [hlen]; omega)), chk_pos (inb (by rw [hlen]; omega))]
      rw [w1 (by omega), show w64 (((l.length - 1 - k : Nat) : Int) - 1) = ((l.length - 1 - (k + 1) : Nat) : Int) by rw [w64_of (by omega) (by omega)]; omega]
      congr 4
      rw [hC k _ (by omega), hC k _ (by omega), if_neg (by omega), if_neg (by omega)]
      simp only [C]
      rw [set_mr, set_mr]
      apply mr_congr
      intro i hi
      by_cases h1 : i = k
      · subst h1
        rw [if_neg (by omega), if_pos rfl, if_pos (by omega)]
      · by_cases h2 : i = l.length - 1 - k
        · subst h2
          rw [if_pos rfl, if_pos (by omega)]
          congr 1; omega
        · rw [if_neg h2, if_neg h1]
          by_cases h3 : i < k ∨ l.length - 1 - k < i
          · rw [if_pos h3, if_pos (by omega)]
          · rw [if_neg h3, if_neg (by omega)]
    · show m_slices_Reverse_int_int_L1 (_, _, _) = _
      unfold m_slices_Reverse_int_int_L1
      have hd : decide (((l.length / 2 : Nat) : Int) < ((l.length - 1 - l.length / 2 : Nat) : Int)) = false := decide_eq_false (by omega)
      simp only [hd, cond_false]
      congr 2
      apply List.ext_getElem (by simp [C])
      intro i h1 h2
      have h3 : i < l.length := by simpa [C] using h1
      have := hC (l.length / 2) i h3
      rw [getD_eq_of_lt _ _ _ h1] at this
      rw [this, List.getElem_reverse]
      split
      · rw [getD_eq_of_lt _ _ _ (by omega)]
      · rw [getD_eq_of_lt _ _ _ h3]
        congr 1; omega

/-! ### One step -/
theorem top {st : List Int} {a : Int} (h : st.length < 4611686018427387904) : (st ++ [a]).getD (w64 (((st ++ [a]).length : Int) - 1)).toNat 0 = a := by
  have : w64 (((st ++ [a]).length : Int) - 1) = ((st.length : Nat) : Int) := by rw [List.length_append, List.length_singleton, w64_of (by omega) (by omega)]; omega
  rw [this, nat_nat]
  simp [List.getD]
theorem topi {st : List Int} {a : Int} (h : st.length < 4611686018427387904) : w64 (((st ++ [a]).length : Int) - 1) = ((st.length : Nat) : Int) := by
  rw [List.length_append, List.length_singleton, w64_of (by omega) (by omega)]; omega
theorem L2_done {g : TGraph} {R : List Bool} {st T : List Int} {a : Nat} (hst : st.length < 64) (ha : a < g.Succ.length) (h64 : g.Succ.length ≤ 64) (ht : T.getD a 0 = ((g.Succ.getD a []).length : Int)) :
    m_graph_Order_L2 g R (st ++ [(a : Int)]) T = some (.done (.inl T)) := by
  unfold m_graph_Order_L2
  simp only [top (st := st) (a := (a : Int)) (by omega), nat_nat]
  rw [chk_pos (inb (by omega)), chk_pos (inb ha), ht, dlt_f, cond_false]
theorem L2_step {g : TGraph} {R : List Bool} {st T : List Int} {a t y : Nat} (hst : st.length < 64) (ha : a < g.Succ.length) (h64 : g.Succ.length ≤ 64) (ht : T.getD a 0 = (t : Int)) (htl : t < (g.Succ.getD a []).length) (htm : t < 64)
    (hy : (g.Succ.getD a []).getD t 0 = (y : Int)) (hyn : y < g.Succ.length) :
    m_graph_Order_L2 g R (st ++ [(a : Int)]) T = bif R.getD y false then some (.next (setN 64 (0 : Int) T a ((t + 1 : Nat) : Int))) else some (.done (.inr (setN 64 false R y true, setN 64 (0 : Int) T a ((t + 1 : Nat) : Int), (st ++ [(a : Int)]) ++ [(y : Int)]))) := by
  have hroom : (1000 : Nat) ≤ room := by decide
  unfold m_graph_Order_L2
  simp only [top (st := st) (a := (a : Int)) (by omega), nat_nat, ht, hy]
  rw [chk_pos (inb (by omega)), chk_pos (inb ha), dlt_t htl, cond_true, chk_pos (inb ha), chk_pos (inb (by omega)), chk_pos (inb htl), chk_pos (inb (by omega)), chk_pos (inb (by omega)), chk_pos (inb (by omega)), w1 (by omega)]
  cases R.getD y false with
  | true => rfl
  | false =>
    simp only [Bool.not_false, cond_true, cond_false]
    rw [chk_pos (inb (by omega)), chk_pos (by rw [List.length_append, List.length_singleton, List.length_singleton]; omega)]
theorem F3_eq {g : TGraph} {R : List Bool} {st T Lf : List Int} {a : Nat} (hst : st.length < 64) (hLf : Lf.length < 64) :
    m_graph_Order_F3 g (R, T, st ++ [(a : Int)], Lf) = (loopO (m_graph_Order_L2 g R (st ++ [(a : Int)])) T).bind fun x => match x with
      | .inl T' => if st = [] then some (.done (Lf ++ [(a : Int)]).reverse) else some (.next (R, T', st, Lf ++ [(a : Int)]))
      | .inr (R', T', st') => some (.next (R', T', st', Lf)) := by
  have hroom : (1000 : Nat) ≤ room := by decide
  unfold m_graph_Order_F3
  simp only
  have hb : InB (w64 (((st ++ [(a : Int)]).length : Int) - 1)) (st ++ [(a : Int)]).length := by rw [topi (by omega)]; exact inb (by simp)
  rw [chk_pos hb]
  congr 1
  funext x
  cases x with
  | inr y => obtain ⟨R', T', st'⟩ := y; rfl
  | inl T' =>
    simp only [top (st := st) (a := (a : Int)) (by omega)]
    rw [topi (by omega), nat_nat, chk_pos (by rw [List.length_singleton]; omega), chk_pos ⟨by omega, by simp⟩]
    have e : (st ++ [(a : Int)]).take st.length = st := List.take_left' rfl
    rw [e]
    cases st with
    | nil =>
      rw [if_pos rfl]
      have : decide ((0 : Int) < (([] : List Int).length : Int)) = false := by decide
      rw [this, cond_false, m_reverse _ (by simp; omega)]
      simp only [Option.bind_some]
      rw [chk_pos (by simp)]
    | cons b st' =>
      rw [if_neg (by simp)]
      have : decide ((0 : Int) < ((b :: st').length : Int)) = true := decide_eq_true (by simp <;> omega)
      rw [this, cond_true]
theorem loopO_from {S X : Type} {f : S → Option (LR S X)} {a b : S} (h : f a = f b) : loopO f a = loopO f b := by
  cases hb : f b with
  | none => rw [loopO_none (h.trans hb), loopO_none hb]
  | some r => cases r with
    | done x => rw [loopO_done (h.trans hb), loopO_done hb]
    | next s => rw [loopO_next (h.trans hb), loopO_next hb]
theorem scopeO_from {S X : Type} {f : S → Option (LR S X)} {s : S} : scopeO (f s) f = loopO f s := by
  unfold scopeO
  cases hb : f s with
  | none => rw [loopO_none hb]; rfl
  | some r => cases r with
    | done x => rw [loopO_done hb]; rfl
    | next s' => rw [loopO_next hb]; rfl

/-! ### All of it -/
/-- Where a block goes on, as numbers. -/
def sN (L : List (List Int)) (k : Nat) : List Nat := (L.getD k []).map Int.toNat
def RelS (R : List Bool) (s : Nat → Bool) : Prop := ∀ z, z < 64 → R.getD z false = s z
theorem setN_at {α : Type} {d : α} {l : List α} {i : Nat} {x : α} {k : Nat} (hk : k < 64) : (setN 64 d l i x).getD k d = if k = i then x else l.getD k d := by
  rw [setN_getD hk]
  by_cases h : k = i
  · subst h; simp
  · have : Nat.beq k i = false := by cases hb : Nat.beq k i with | false => rfl | true => exact absurd (Nat.eq_of_beq_eq_true hb) h
    rw [this, if_neg h]; rfl
theorem RelS.set {R : List Bool} {s : Nat → Bool} (h : RelS R s) {y : Nat} : RelS (setN 64 false R y true) (upd s y) := fun z hz => by
  rw [setN_at hz, h z hz]
  by_cases hzy : z = y
  · simp [upd, hzy]
  · simp [upd, hzy]
def ofN (o : List Nat) : List Int := o.map Int.ofNat
theorem order_main {g : TGraph} (hm : mayS g.Succ = true) {s s' : Nat → Bool} {l o : List Nat} (hv : VL (sN g.Succ) s l s' o) :
    ∀ (R : List Bool) (T st Lf : List Int) (a t : Nat), RelS R s → a < g.Succ.length → l = (sN g.Succ a).drop t → T.getD a 0 = (t : Int) → t ≤ (sN g.Succ a).length → s a = true → (∀ z, z < 64 → s z = false → T.getD z 0 = 0) →
      Lf.length + cnt 64 s + st.length + 1 ≤ 64 →
      ∃ (R' : List Bool) (T' : List Int), RelS R' s' ∧ (∀ z, z < 64 → s' z = false → T'.getD z 0 = 0) ∧ (∀ z, z < 64 → s z = true → z ≠ a → T'.getD z 0 = T.getD z 0) ∧ Lf.length + o.length + cnt 64 s' + st.length + 1 ≤ 64 ∧
        loopO (m_graph_Order_F3 g) (R, T, st ++ [(a : Int)], Lf) = if st = [] then some (Lf ++ ofN o ++ [(a : Int)]).reverse else loopO (m_graph_Order_F3 g) (R', T', st, Lf ++ ofN o ++ [(a : Int)]) := by
  obtain ⟨hL1, hL64, hLok⟩ := mayS_iff.1 hm
  have hlenS : ∀ a, (sN g.Succ a).length = (g.Succ.getD a []).length := fun a => by simp [sN]
  have hdrop : ∀ (a t y : Nat) (l' : List Nat), a < g.Succ.length → y :: l' = (sN g.Succ a).drop t → t < (g.Succ.getD a []).length ∧ (g.Succ.getD a []).getD t 0 = (y : Int) ∧ y < g.Succ.length ∧ l' = (sN g.Succ a).drop (t + 1) := fun a t y l' ha he => by
    have ht : t < (sN g.Succ a).length := by
      rcases Nat.lt_or_ge t (sN g.Succ a).length with h | h
      · exact h
      · rw [List.drop_eq_nil_of_le h] at he; cases he
    rw [List.drop_eq_getElem_cons ht] at he
    simp only [List.cons.injEq] at he
    obtain ⟨h1, h2⟩ := he
    have ht' : t < (g.Succ.getD a []).length := by rw [← hlenS]; exact ht
    obtain ⟨b0, b1⟩ := okL_at (hLok a ha) ht'
    have h3 : (sN g.Succ a)[t] = ((g.Succ.getD a []).getD t 0).toNat := by rw [getD_eq_of_lt _ _ _ ht']; simp [sN]
    exact ⟨ht', by omega, by omega, h2⟩
  induction hv with
  | nil s =>
    intro R T st Lf a t hR ha hl hT htl hsa hz hc
    have ht : t = (g.Succ.getD a []).length := by
      have := congrArg List.length hl
      simp at this
      rw [hlenS] at htl this
      omega
    refine ⟨R, T, hR, hz, fun _ _ _ _ => rfl, by simpa using hc, ?_⟩
    have hF : m_graph_Order_F3 g (R, T, st ++ [(a : Int)], Lf) = if st = [] then some (.done (Lf ++ [(a : Int)]).reverse) else some (.next (R, T, st, Lf ++ [(a : Int)])) := by
      rw [F3_eq (by omega) (by omega), loopO_done (L2_done (by omega) ha hL64 (by rw [hT, ht]))]
      rfl
    by_cases hst : st = []
    · rw [if_pos hst] at hF ⊢
      rw [loopO_done hF]
      simp [ofN]
    · rw [if_neg hst] at hF ⊢
      rw [loopO_next hF]
      simp [ofN]
  | @skip s s' y l o h tl ih =>
    intro R T st Lf a t hR ha hl hT htl hsa hz hc
    obtain ⟨h1, h2, h3, h4⟩ := hdrop a t y l ha hl
    have hb := okL_len (hLok a ha)
    have hs := L2_step (g := g) (R := R) (st := st) (T := T) (a := a) (t := t) (y := y) (by omega) ha hL64 hT h1 (by omega) h2 h3
    rw [hR y (by omega), h, cond_true] at hs
    obtain ⟨R', T', a1, a2, a3, a4, a5⟩ := ih R (setN 64 (0 : Int) T a ((t + 1 : Nat) : Int)) st Lf a (t + 1) hR ha h4 (by rw [setN_at (by omega), if_pos rfl]) (by rw [hlenS]; omega) hsa
      (fun z hz1 hz2 => by rw [setN_at hz1, if_neg (by rintro rfl; rw [hsa] at hz2; cases hz2)]; exact hz z hz1 hz2) hc
    refine ⟨R', T', a1, a2, fun z hz1 hz2 hz3 => by rw [a3 z hz1 hz2 hz3, setN_at hz1, if_neg hz3], a4, ?_⟩
    rw [← a5]
    apply loopO_from
    rw [F3_eq (by omega) (by omega), F3_eq (by omega) (by omega), loopO_next hs]
  | @step s s1 s2 y l o1 o2 h tl tr ih1 ih2 =>
    intro R T st Lf a t hR ha hl hT htl hsa hz hc
    obtain ⟨h1, h2, h3, h4⟩ := hdrop a t y l ha hl
    have hb := okL_len (hLok a ha)
    have hay : y ≠ a := by rintro rfl; rw [hsa] at h; cases h
    have hs := L2_step (g := g) (R := R) (st := st) (T := T) (a := a) (t := t) (y := y) (by omega) ha hL64 hT h1 (by omega) h2 h3
    rw [hR y (by omega), h, cond_false] at hs
    have hcu := cnt_upd (n := 64) (show y < 64 by omega) h
    have hF : m_graph_Order_F3 g (R, T, st ++ [(a : Int)], Lf) = some (.next (setN 64 false R y true, setN 64 (0 : Int) T a ((t + 1 : Nat) : Int), (st ++ [(a : Int)]) ++ [(y : Int)], Lf)) := by
      rw [F3_eq (by omega) (by omega), loopO_done hs]
      rfl
    obtain ⟨R1, T1, b1, b2, b3, b4, b5⟩ := ih1 (setN 64 false R y true) (setN 64 (0 : Int) T a ((t + 1 : Nat) : Int)) (st ++ [(a : Int)]) Lf y 0 hR.set h3 (by simp)
      (by rw [setN_at (by omega), if_neg hay]; exact hz y (by omega) h) (Nat.zero_le _) (upd_true.2 (.inl rfl))
      (fun z hz1 hz2 => by
        obtain ⟨c1, c2⟩ := upd_false.1 hz2
        rw [setN_at hz1, if_neg (by rintro rfl; rw [hsa] at c2; cases c2)]
        exact hz z hz1 c2) (by rw [List.length_append, List.length_singleton]; omega)
    rw [if_neg (by simp)] at b5
    have hTa : T1.getD a 0 = ((t + 1 : Nat) : Int) := by rw [b3 a (by omega) (upd_true.2 (.inr hsa)) (Ne.symm hay), setN_at (by omega), if_pos rfl]
    rw [List.length_append, List.length_singleton] at b4
    obtain ⟨R2, T2, c1, c2, c3, c4, c5⟩ := ih2 R1 T1 st (Lf ++ ofN o1 ++ [(y : Int)]) a (t + 1) b1 ha h4 hTa (by rw [hlenS]; omega) ((tl.seen a).2 (.inl (upd_true.2 (.inr hsa)))) b2
      (by simp only [List.length_append, List.length_singleton, ofN, List.length_map]; omega)
    refine ⟨R2, T2, c1, c2, fun z hz1 hz2 hz3 => ?_, ?_, ?_⟩
    · rw [c3 z hz1 ((tl.seen z).2 (.inl (upd_true.2 (.inr hz2)))) hz3, b3 z hz1 (upd_true.2 (.inr hz2)) (by rintro rfl; rw [h] at hz2; cases hz2), setN_at hz1, if_neg hz3]
    · simp only [List.length_append, List.length_singleton, ofN, List.length_map, List.length_cons] at c4 ⊢
      omega
    · rw [loopO_next hF, b5, c5]
      have e : Lf ++ ofN o1 ++ [(y : Int)] ++ ofN o2 ++ [(a : Int)] = Lf ++ ofN (o1 ++ y :: o2) ++ [(a : Int)] := by simp [ofN]
      rw [e]

theorem sN_lt {L : List (List Int)} (h : mayS L = true) : ∀ z, z < L.length → ∀ y ∈ sN L z, y < L.length := fun z hz y hy => by
  obtain ⟨_, _, h3⟩ := mayS_iff.1 h
  obtain ⟨x, hx, rfl⟩ := List.mem_map.1 hy
  have := okL_mem (h3 z hz) hx
  omega
theorem cnt_one {r : Nat} (hr : r < 64) : cnt 64 (one r) = 63 := by
  have h := cnt_upd (n := 64) (s := fun _ => false) hr rfl
  have e : upd (fun _ => false) r = one r := by funext z; simp [upd, one]
  rw [e] at h
  have : cnt 64 (fun _ => false) = 64 := by decide
  omega
theorem rep_getD {α : Type} {n z : Nat} {d : α} : (List.replicate n d).getD z d = d := by rw [List.getD_eq_getElem?_getD, List.getElem?_replicate]; split <;> rfl
theorem m_order (g : TGraph) (h : Fits g.Succ) (hP : True) (r : Int) :
    (mayG g = true → 0 ≤ r → r < (g.Succ.length : Int) → ∀ L, Ord (sN g.Succ) r.toNat L → m_graph_Order g r = some (ofN L)) ∧
    ((mayG g && (decide (0 ≤ r) && decide (r < (g.Succ.length : Int)))) = false → m_graph_Order g r = some []) := by
  refine ⟨fun hm h0 h1 L hL => ?_, fun hf => ?_⟩
  · have hms : mayS g.Succ = true := by unfold mayG at hm; exact (Bool.and_eq_true _ _ ▸ hm).1
    obtain ⟨hL1, hL64, hLok⟩ := mayS_iff.1 hms
    obtain ⟨s', o, hv, rfl⟩ := hL
    have hrn : ((r.toNat : Nat) : Int) = r := Int.toNat_of_nonneg h0
    have hr : r.toNat < g.Succ.length := by omega
    obtain ⟨R', T', _, _, _, _, hmain⟩ := order_main hms hv (setN 64 false (List.replicate 64 false) r.toNat true) (List.replicate 64 (0 : Int)) [] [] r.toNat 0
      (fun z hz => by rw [setN_at hz, rep_getD]; by_cases hzr : z = r.toNat <;> simp [one, hzr]) hr (by simp) rep_getD (Nat.zero_le _) (by simp [one])
      (fun z hz _ => rep_getD) (by rw [cnt_one (by omega)]; simp)
    rw [if_pos rfl, hrn] at hmain
    unfold m_graph_Order
    rw [m_may _ h, hm, Option.bind_some]
    simp only [Bool.not_true, beq_self_eq_true, cond_true, cond_false, m_isPlace, decide_eq_true h0, decide_eq_true h1, Bool.and_self, Option.bind_some]
    rw [chk_pos ⟨h0, by omega⟩]
    have hF : ∀ X, loopO (m_graph_Order_F3 g) (setN 64 false (List.replicate 64 false) r.toNat true, List.replicate 64 (0 : Int), [] ++ [r], []) = some X →
        (scopeO (m_graph_Order_F3 g (setN 64 false (List.replicate 64 false) r.toNat true, List.replicate 64 (0 : Int), [r], [])) (m_graph_Order_F3 g)).bind (fun x => some x) = some X := fun X hX => by
      rw [scopeO_from]
      rw [List.nil_append] at hX
      rw [hX]; rfl
    refine (hF _ hmain).trans ?_
    simp only [List.nil_append, List.reverse_append, ofN, List.map_cons, List.map_reverse, List.reverse_cons, List.reverse_nil]
    simp
    omega
  · unfold m_graph_Order
    rw [m_may _ h, Option.bind_some]
    cases hm : mayG g with
    | false => rfl
    | true =>
      rw [hm, Bool.true_and] at hf
      simp only [Bool.not_true, beq_self_eq_true, cond_true, cond_false, m_isPlace, hf, Option.bind_some, Bool.not_false]
      rfl
end Go.Proofs.Ytlkcijaejngomaa

namespace Go.Proofs.Ytlkcijaejngomaa
open Go Go.RowKit
set_option linter.unusedVariables false
set_option linter.unusedSimpArgs false

def RelN (n : Nat) (R : List Bool) (s : Nat → Bool) : Prop := R.length = n ∧ ∀ z, z < n → R.getD z false = s z
theorem RelN.set {n : Nat} {R : List Bool} {s : Nat → Bool} (h : RelN n R s) {y : Nat} (hy : y < n) : RelN n (R.set y true) (upd s y) := by
  refine ⟨by rw [List.length_set]; exact h.1, fun z hz => ?_⟩
  rw [List.getD_eq_getElem?_getD, List.getElem?_set]
  by_cases hzy : y = z
  · subst hzy; simp [upd, h.1, hy]
  · rw [if_neg hzy, ← List.getD_eq_getElem?_getD, h.2 z hz]
    simp [upd, Ne.symm hzy]
theorem nodup_len : ∀ (n : Nat) (l : List Nat), l.Nodup → (∀ x ∈ l, x < n) → l.length ≤ n
  | 0, l, _, h => by
    cases l with
    | nil => simp
    | cons x l => have := h x (List.mem_cons_self ..); omega
  | n + 1, l, hd, h => by
    by_cases hn : n ∈ l
    · have h1 := nodup_len n (l.erase n) (hd.erase n) fun x hx => by
        have h2 := (hd.mem_erase_iff).1 hx
        have := h x h2.2
        have := h2.1
        omega
      rw [List.length_erase_of_mem hn] at h1
      omega
    · have h1 := nodup_len n l hd fun x hx => by
        have := h x hx
        have : x ≠ n := by rintro rfl; exact hn hx
        omega
      omega
end Go.Proofs.Ytlkcijaejngomaa

namespace Go.Proofs.Ytlkcijaejngomaa
open Go Go.RowKit
set_option linter.unusedVariables false
set_option linter.unusedSimpArgs false

def wakeL : List (List Int) := [[1, 2], [3], [3], []]
theorem wake_ord : Ord (sN wakeL) 0 [0, 2, 1, 3] := by
  have e0 : sN wakeL 0 = [1, 2] := rfl
  have e1 : sN wakeL 1 = [3] := rfl
  have e2 : sN wakeL 2 = [3] := rfl
  have e3 : sN wakeL 3 = [] := rfl
  have h3 : ∀ s, VL (sN wakeL) s (sN wakeL 3) s [] := fun s => by rw [e3]; exact .nil s
  have h1 : ∀ s, s 3 = false → VL (sN wakeL) s (sN wakeL 1) (upd s 3) [3] := fun s h => by rw [e1]; exact VL.step (o1 := []) (o2 := []) h (h3 _) (.nil _)
  have h2 : ∀ s, s 3 = true → VL (sN wakeL) s (sN wakeL 2) s [] := fun s h => by rw [e2]; exact .skip h (.nil _)
  have h : VL (sN wakeL) (one 0) [1, 2] (upd (upd (upd (one 0) 1) 3) 2) ([3] ++ 1 :: ([] ++ 2 :: [])) :=
    VL.step (by simp [one]) (h1 _ (by simp [one, upd])) (VL.step (by simp [one, upd]) (h2 _ (by simp [one, upd])) (.nil _))
  exact ⟨_, _, by rw [e0]; exact h, rfl⟩
end Go.Proofs.Ytlkcijaejngomaa

namespace Go.Proofs.Ytlkcijaejngomaa
open Go Go.RowKit
set_option linter.unusedVariables false
set_option linter.unusedSimpArgs false

theorem sorted_ext : ∀ {a b : List Int}, a.Pairwise (· < ·) → b.Pairwise (· < ·) → (∀ x, x ∈ a ↔ x ∈ b) → a = b
  | [], [], _, _, _ => rfl
  | [], y :: b, _, _, h => by have := (h y).2 (List.mem_cons_self ..); cases this
  | x :: a, [], _, _, h => by have := (h x).1 (List.mem_cons_self ..); cases this
  | x :: a, y :: b, ha, hb, h => by
    have ha' := List.pairwise_cons.1 ha
    have hb' := List.pairwise_cons.1 hb
    have hxy : x = y := by
      rcases List.mem_cons.1 ((h x).1 (List.mem_cons_self ..)) with h1 | h1
      · exact h1
      · rcases List.mem_cons.1 ((h y).2 (List.mem_cons_self ..)) with h2 | h2
        · exact h2.symm
        · have := ha'.1 y h2
          have := hb'.1 x h1
          omega
    subst hxy
    congr 1
    refine sorted_ext ha'.2 hb'.2 fun z => ⟨fun hz => ?_, fun hz => ?_⟩
    · rcases List.mem_cons.1 ((h z).1 (List.mem_cons_of_mem _ hz)) with rfl | h1
      · have := ha'.1 z hz; omega
      · exact h1
    · rcases List.mem_cons.1 ((h z).2 (List.mem_cons_of_mem _ hz)) with rfl | h1
      · have := hb'.1 z hz; omega
      · exact h1
theorem filt_sorted (p : Nat → Bool) (n : Nat) : (((List.range n).filter p).map Int.ofNat).Pairwise (· < ·) := by
  rw [List.pairwise_map]
  have := (List.pairwise_lt_range (n := n)).filter p
  exact this.imp fun h => by simpa using h
theorem mem_filt {p : Nat → Bool} {n : Nat} {x : Int} : x ∈ ((List.range n).filter p).map Int.ofNat ↔ ∃ k : Nat, x = (k : Int) ∧ k < n ∧ p k = true := by
  simp only [List.mem_map, List.mem_filter, List.mem_range]
  constructor
  · rintro ⟨k, ⟨h1, h2⟩, rfl⟩; exact ⟨k, rfl, h1, h2⟩
  · rintro ⟨k, rfl, h1, h2⟩; exact ⟨k, ⟨h1, h2⟩, rfl⟩
theorem goes_iff {L : List (List Int)} {k i : Nat} : goesB L k i = true ↔ (i : Int) ∈ L.getD k [] := by unfold goesB; rw [List.contains_iff_mem]
theorem predAt_ok (L : List (List Int)) (i : Nat) : okL L.length (predAt L L.length i) = true :=
  okL_of (fun x hx => by obtain ⟨k, rfl, hk, _⟩ := mem_filt.1 hx; omega) (filt_sorted _ _)
theorem mayS_pred {L : List (List Int)} (h : mayS L = true) : mayS (predOf L) = true := by
  obtain ⟨h1, h2, h3⟩ := mayS_iff.1 h
  refine mayS_iff.2 ⟨by rw [predOf_len]; exact h1, by rw [predOf_len]; exact h2, fun i hi => ?_⟩
  rw [predOf_len] at hi ⊢
  rw [predOf_at hi]
  exact predAt_ok L i
theorem pred_pred {L : List (List Int)} (h : mayS L = true) : predOf (predOf L) = L := by
  obtain ⟨h1, h2, h3⟩ := mayS_iff.1 h
  apply List.ext_getElem (by rw [predOf_len, predOf_len])
  intro i hi hi'
  have e1 : (predOf (predOf L))[i] = predAt (predOf L) L.length i := by
    have := predOf_at (L := predOf L) (i := i) (by rw [predOf_len]; exact hi')
    rw [getD_eq_of_lt _ _ _ hi, predOf_len] at this
    exact this
  have e2 := getD_eq_of_lt L i [] hi'
  rw [e1, ← e2]
  refine sorted_ext (filt_sorted _ _) (okL_pair (h3 i hi')) fun x => ?_
  rw [show predAt (predOf L) L.length i = ((List.range L.length).filter fun k => goesB (predOf L) k i).map Int.ofNat from rfl, mem_filt]
  constructor
  · rintro ⟨k, rfl, hk, hg⟩
    rw [goes_iff, predOf_at hk] at hg
    obtain ⟨j, hj, _, hg'⟩ := mem_filt.1 hg
    have : j = i := by omega
    subst this
    exact goes_iff.1 hg'
  · intro hx
    have hb := okL_mem (h3 i hi') hx
    refine ⟨x.toNat, by omega, by omega, ?_⟩
    rw [goes_iff, predOf_at (by omega)]
    refine mem_filt.2 ⟨i, rfl, hi', ?_⟩
    rw [goes_iff, Int.toNat_of_nonneg hb.1]
    exact hx
theorem mayG_turned {L : List (List Int)} (h : mayS L = true) : mayG ⟨predOf L, L⟩ = true := by
  simp [mayG, mayS_pred h, pred_pred h]
theorem bif_same {b : Bool} {α : Type} {x : α} : (bif b then x else x) = x := by cases b <;> rfl
theorem small_len {L : List (List Int)} (h : L.length ≤ maxLen) : L.length < 9223372036854775808 := by unfold maxLen at h; omega

theorem g0_fits : Fits g0.Succ ∧ Fits g0.Pred := ⟨fits_of (by simp [g0]), fits_of (by simp [g0])⟩
theorem mayG_g0 : mayG g0 = false := by decide
end Go.Proofs.Ytlkcijaejngomaa

namespace Go.Proofs.Ytlkcijaejngomaa
open Go Go.RowKit
set_option linter.unusedVariables false
set_option linter.unusedSimpArgs false

theorem mem_sN {L : List (List Int)} (h : mayS L = true) {x y : Nat} (hx : x < L.length) : y ∈ sN L x ↔ (y : Int) ∈ L.getD x [] := by
  obtain ⟨_, _, h3⟩ := mayS_iff.1 h
  unfold sN
  rw [List.mem_map]
  constructor
  · rintro ⟨z, hz, rfl⟩
    have := okL_mem (h3 x hx) hz
    rw [Int.toNat_of_nonneg this.1]
    exact hz
  · intro hy; exact ⟨_, hy, nat_nat y⟩
theorem sN_turned {L : List (List Int)} (h : mayS L = true) {x y : Nat} (hx : x < L.length) (hy : y < L.length) : y ∈ sN L x ↔ x ∈ sN (predOf L) y := by
  rw [mem_sN h hx, mem_sN (mayS_pred h) (by rw [predOf_len]; exact hy), predOf_at hy]
  rw [show predAt L L.length y = ((List.range L.length).filter fun k => goesB L k y).map Int.ofNat from rfl, mem_filt]
  constructor
  · intro hm; exact ⟨x, rfl, hx, goes_iff.2 hm⟩
  · rintro ⟨k, hk, _, hg⟩
    have : k = x := by omega
    subst this
    exact goes_iff.1 hg
theorem rch_lt {L : List (List Int)} (h : mayS L = true) {x y : Nat} (hr : Rch (sN L) x y) (hx : x < L.length) : y < L.length := by
  induction hr with
  | refl x => exact hx
  | head hy _ ih => exact ih (sN_lt h _ hx _ hy)
theorem rch_turned {L : List (List Int)} (h : mayS L = true) {x y : Nat} (hr : Rch (sN L) x y) (hx : x < L.length) : Rch (sN (predOf L)) y x := by
  induction hr with
  | refl x => exact .refl x
  | @head x y z hy t ih =>
    have hyn := sN_lt h _ hx _ hy
    exact (ih hyn).tail ((sN_turned h hx hyn).1 hy)
theorem mem_ofN {l : List Nat} {x : Nat} : (x : Int) ∈ ofN l ↔ x ∈ l := by
  unfold ofN
  rw [List.mem_map]
  constructor
  · rintro ⟨k, hk, he⟩
    have : k = x := by have h2 : (k : Int) = x := he; omega
    subst this; exact hk
  · intro hx; exact ⟨x, hx, rfl⟩
theorem ofN_at {l : List Nat} {i : Nat} (hi : i < l.length) : (ofN l).getD i 0 = ((l[i] : Nat) : Int) := by simp [ofN, List.getD, hi]
end Go.Proofs.Ytlkcijaejngomaa

namespace Go.Proofs.Ytlkcijaejngomaa
open Go Go.RowKit
set_option linter.unusedVariables false
set_option linter.unusedSimpArgs false

theorem chain_vl (S : Nat → List Nat) (p : Nat → Nat) (m : Nat) (hinj : ∀ i j, i < m → j < m → p i = p j → i = j) (hstep : ∀ i, i + 1 < m → S (p i) = [p (i + 1)]) (hend : S (p (m - 1)) = [] ∨ S (p (m - 1)) = [p 0]) :
    ∀ (d i : Nat), i + d + 1 = m → ∀ s : Nat → Bool, (∀ z, s z = true ↔ ∃ j, j ≤ i ∧ z = p j) → ∃ s', VL S s (S (p i)) s' ((List.range' (i + 1) d).map p).reverse := by
  intro d
  induction d with
  | zero =>
    intro i hi s hs
    have him : i = m - 1 := by omega
    subst him
    rcases hend with h | h
    · rw [h]; exact ⟨s, .nil s⟩
    · rw [h]; exact ⟨s, .skip ((hs _).2 ⟨0, by omega, rfl⟩) (.nil s)⟩
  | succ d ih =>
    intro i hi s hs
    rw [hstep i (by omega)]
    have hf : s (p (i + 1)) = false := by
      cases h : s (p (i + 1)) with
      | false => rfl
      | true =>
        obtain ⟨j, hj, he⟩ := (hs _).1 h
        have := hinj _ _ (by omega) (by omega) he
        omega
    obtain ⟨s', h'⟩ := ih (i + 1) (by omega) (upd s (p (i + 1))) (fun z => by
      rw [upd_true, hs]
      constructor
      · rintro (rfl | ⟨j, hj, rfl⟩)
        · exact ⟨i + 1, Nat.le_refl _, rfl⟩
        · exact ⟨j, by omega, rfl⟩
      · rintro ⟨j, hj, rfl⟩
        by_cases hji : j = i + 1
        · subst hji; exact .inl rfl
        · exact .inr ⟨j, by omega, rfl⟩)
    refine ⟨s', ?_⟩
    have := VL.step hf h' (.nil s')
    rw [List.range'_succ, List.map_cons, List.reverse_cons]
    exact this
theorem chain_ord (S : Nat → List Nat) (p : Nat → Nat) (m : Nat) (hm : 1 ≤ m) (hinj : ∀ i j, i < m → j < m → p i = p j → i = j) (hstep : ∀ i, i + 1 < m → S (p i) = [p (i + 1)]) (hend : S (p (m - 1)) = [] ∨ S (p (m - 1)) = [p 0]) :
    Ord S (p 0) ((List.range m).map p) := by
  obtain ⟨s', h⟩ := chain_vl S p m hinj hstep hend (m - 1) 0 (by omega) (one (p 0)) (fun z => by
    simp only [one, decide_eq_true_eq]
    constructor
    · rintro rfl; exact ⟨0, Nat.le_refl _, rfl⟩
    · rintro ⟨j, hj, rfl⟩
      have hj0 : j = 0 := by omega
      rw [hj0])
  refine ⟨s', _, h, ?_⟩
  rw [List.reverse_reverse]
  obtain ⟨m', rfl⟩ : ∃ m', m = m' + 1 := ⟨m - 1, by omega⟩
  rw [List.range_eq_range', List.range'_succ, List.map_cons]
  simp
theorem filter_lt_range (k r : Nat) (h : r ≤ k) : (List.range k).filter (fun j => decide (r + j < k)) = List.range (k - r) := by
  have e : List.range k = List.range (k - r) ++ (List.range' (k - r) r) := by
    have h2 := List.range'_append (s := 0) (m := k - r) (n := r) (step := 1)
    simp only [Nat.zero_add, Nat.one_mul] at h2
    rw [List.range_eq_range', List.range_eq_range', h2, show k - r + r = k by omega]
  rw [e, List.filter_append]
  have h1 : (List.range (k - r)).filter (fun j => decide (r + j < k)) = List.range (k - r) := List.filter_eq_self.2 fun j hj => by have := List.mem_range.1 hj; simp; omega
  have h2 : (List.range' (k - r) r).filter (fun j => decide (r + j < k)) = [] := List.filter_eq_nil_iff.2 fun j hj => by have := List.mem_range'_1.1 hj; simp; omega
  rw [h1, h2, List.append_nil]

/-- Blocks that go on one at the next, and the last one at the first, or not. -/
def lineL (k : Nat) (rd : Bool) : List (List Int) := (List.range k).map fun j => if j + 1 < k then [((j + 1 : Nat) : Int)] else (if rd = true then [(0 : Int)] else [])
theorem lineL_len (k : Nat) (rd : Bool) : (lineL k rd).length = k := by simp [lineL]
theorem lineL_at {k j : Nat} {rd : Bool} (hj : j < k) : (lineL k rd).getD j [] = if j + 1 < k then [((j + 1 : Nat) : Int)] else (if rd = true then [(0 : Int)] else []) := by unfold lineL; rw [getD_mr hj]
theorem lineL_may {k : Nat} {rd : Bool} (h1 : 1 ≤ k) (h2 : k ≤ 64) : mayS (lineL k rd) = true := by
  refine mayS_iff.2 ⟨by rw [lineL_len]; exact h1, by rw [lineL_len]; exact h2, fun i hi => ?_⟩
  rw [lineL_len] at hi ⊢
  rw [lineL_at hi]
  split
  · exact okL_of (fun x hx => by simp only [List.mem_singleton] at hx; omega) (List.pairwise_singleton _ _)
  · split
    · exact okL_of (fun x hx => by simp only [List.mem_singleton] at hx; omega) (List.pairwise_singleton _ _)
    · exact okL_of (fun x hx => by cases hx) List.Pairwise.nil
theorem lineS {k j : Nat} {rd : Bool} (hj : j < k) : sN (lineL k rd) j = if j + 1 < k then [j + 1] else (if rd = true then [0] else []) := by
  unfold sN
  rw [lineL_at hj]
  split
  · simp
  · split <;> simp
def wantN (k r : Nat) (rd : Bool) (i : Nat) : List Nat := ((List.range i).filter fun j => rd || decide (r + j < k)).map fun j => (r + j) % k
theorem line_ord {k r : Nat} {rd : Bool} (hr : r < k) : Ord (sN (lineL k rd)) r (wantN k r rd k) := by
  cases rd with
  | true =>
    have e : wantN k r true k = (List.range k).map fun j => (r + j) % k := by unfold wantN; rw [List.filter_eq_self.2 (by simp)]
    have hk : 0 < k := by omega
    have h := chain_ord (sN (lineL k true)) (fun j => (r + j) % k) k (by omega) (fun i j hi hj he => ?_) (fun i hi => ?_) ?_
    · rw [e]
      have e0 : (r + 0) % k = r := by rw [Nat.add_zero]; exact Nat.mod_eq_of_lt hr
      simp only [e0] at h
      exact h
    · have he' : (r + i) % k = (r + j) % k := he
      have hi2 : (r + i) % k = if r + i < k then r + i else r + i - k := by
        split
        · exact Nat.mod_eq_of_lt ‹_›
        · rw [Nat.mod_eq_sub_mod (by omega)]; exact Nat.mod_eq_of_lt (by omega)
      have hj2 : (r + j) % k = if r + j < k then r + j else r + j - k := by
        split
        · exact Nat.mod_eq_of_lt ‹_›
        · rw [Nat.mod_eq_sub_mod (by omega)]; exact Nat.mod_eq_of_lt (by omega)
      rw [hi2, hj2] at he'
      split at he' <;> split at he' <;> omega
    · show sN (lineL k true) ((r + i) % k) = [(r + (i + 1)) % k]
      rw [lineS (Nat.mod_lt _ hk)]
      by_cases h1 : r + i < k
      · rw [Nat.mod_eq_of_lt h1]
        by_cases h2 : r + i + 1 < k
        · rw [if_pos h2, show r + (i + 1) = r + i + 1 by omega, Nat.mod_eq_of_lt h2]
        · rw [if_neg h2, if_pos rfl, show r + (i + 1) = k by omega, Nat.mod_self]
      · rw [Nat.mod_eq_sub_mod (show r + i ≥ k by omega), Nat.mod_eq_of_lt (show r + i - k < k by omega), if_pos (by omega), Nat.mod_eq_sub_mod (show r + (i + 1) ≥ k by omega), Nat.mod_eq_of_lt (show r + (i + 1) - k < k by omega)]
        congr 1; omega
    · refine .inr ?_
      show sN (lineL k true) ((r + (k - 1)) % k) = [(r + 0) % k]
      rw [lineS (Nat.mod_lt _ hk), show (r + 0) % k = r by rw [Nat.add_zero]; exact Nat.mod_eq_of_lt hr]
      by_cases h0 : r = 0
      · subst h0
        rw [Nat.zero_add, Nat.mod_eq_of_lt (show k - 1 < k by omega), if_neg (by omega), if_pos rfl]
      · rw [Nat.mod_eq_sub_mod (show r + (k - 1) ≥ k by omega), Nat.mod_eq_of_lt (show r + (k - 1) - k < k by omega), if_pos (by omega)]
        congr 1; omega
  | false =>
    have e : wantN k r false k = (List.range (k - r)).map fun j => r + j := by
      unfold wantN
      have : (fun j => (false || decide (r + j < k))) = fun j => decide (r + j < k) := by funext j; simp
      rw [this, filter_lt_range k r (by omega)]
      apply List.map_congr_left
      intro j hj
      have := List.mem_range.1 hj
      exact Nat.mod_eq_of_lt (by omega)
    have h := chain_ord (sN (lineL k false)) (fun j => r + j) (k - r) (by omega) (fun i j _ _ he => by have he' : r + i = r + j := he; omega) (fun i hi => ?_) (.inl ?_)
    · rw [e]; exact h
    · show sN (lineL k false) (r + i) = [r + (i + 1)]
      rw [lineS (by omega), if_pos (by omega)]; rfl
    · show sN (lineL k false) (r + (k - r - 1)) = []
      rw [lineS (by omega), if_neg (by omega)]; rfl

end Go.Proofs.Ytlkcijaejngomaa

namespace Go.Proofs.Ytlkcijaejngomaa
open Go Go.RowKit
set_option linter.unusedVariables false
set_option linter.unusedSimpArgs false

def mk (o : List Bool) (l : List Nat) : List Bool := l.foldl (fun o y => o.set y true) o
theorem mk_len (l : List Nat) : ∀ o : List Bool, (mk o l).length = o.length := by
  induction l with
  | nil => intro o; rfl
  | cons y l ih => intro o; show (mk (o.set y true) l).length = _; rw [ih, List.length_set]
theorem mk_at {n : Nat} (l : List Nat) : ∀ (o : List Bool), o.length = n → (∀ y ∈ l, y < n) → ∀ z, (mk o l).getD z false = true ↔ o.getD z false = true ∨ z ∈ l := by
  induction l with
  | nil => intro o _ _ z; simp [mk]
  | cons y l ih =>
    intro o ho hl z
    show (mk (o.set y true) l).getD z false = true ↔ _
    rw [ih (o.set y true) (by rw [List.length_set]; exact ho) (fun u hu => hl u (List.mem_cons_of_mem _ hu)) z]
    have hy := hl y (List.mem_cons_self ..)
    have e : (o.set y true).getD z false = true ↔ o.getD z false = true ∨ z = y := by
      rw [List.getD_eq_getElem?_getD, List.getElem?_set, List.getD_eq_getElem?_getD]
      by_cases h : y = z
      · subst h; simp [ho, hy]
      · simp [h, Ne.symm h]
    rw [e, List.mem_cons]
    constructor
    · rintro ((h | h) | h)
      · exact .inl h
      · exact .inr (.inl h)
      · exact .inr (.inr h)
    · rintro (h | h | h)
      · exact .inl (.inl h)
      · exact .inl (.inr h)
      · exact .inr h
def sw (S : Nat → List Nat) (o : List Bool) : Nat → List Bool
  | 0 => o
  | i + 1 => if (sw S o i).getD i false = true then mk (sw S o i) (S i) else sw S o i
def rds (S : Nat → List Nat) (n : Nat) (o : List Bool) : Nat → List Bool
  | 0 => o
  | j + 1 => sw S (rds S n o j) n
section
variable {S : Nat → List Nat} {n : Nat} (hS : ∀ z, z < n → ∀ y ∈ S z, y < n)
theorem sw_len (o : List Bool) : ∀ i, (sw S o i).length = o.length := by
  intro i
  induction i with
  | zero => rfl
  | succ i ih => unfold sw; split; rw [mk_len, ih]; exact ih
theorem rds_len (o : List Bool) : ∀ j, (rds S n o j).length = o.length := by
  intro j
  induction j with
  | zero => rfl
  | succ j ih => unfold rds; rw [sw_len, ih]
include hS
theorem sw_mono {o : List Bool} (ho : o.length = n) : ∀ i, i ≤ n → ∀ z, o.getD z false = true → (sw S o i).getD z false = true := by
  intro i
  induction i with
  | zero => intro _ z h; exact h
  | succ i ih =>
    intro hi z h
    unfold sw
    split
    · exact (mk_at (n := n) _ _ (by rw [sw_len]; exact ho) (hS i (by omega)) z).2 (.inl (ih (by omega) z h))
    · exact ih (by omega) z h
theorem sw_sound {o : List Bool} {r : Nat} (ho : o.length = n) (h : ∀ z, o.getD z false = true → Rch S r z) : ∀ i, i ≤ n → ∀ z, (sw S o i).getD z false = true → Rch S r z := by
  intro i
  induction i with
  | zero => intro _ z hz; exact h z hz
  | succ i ih =>
    intro hi z hz
    unfold sw at hz
    split at hz
    · rename_i hsi
      rcases (mk_at (n := n) _ _ (by rw [sw_len]; exact ho) (hS i (by omega)) z).1 hz with h1 | h1
      · exact ih (by omega) z h1
      · exact (ih (by omega) i hsi).tail h1
    · exact ih (by omega) z hz
theorem sw_step {o : List Bool} (ho : o.length = n) : ∀ i, i ≤ n → ∀ j, j < i → o.getD j false = true → ∀ y ∈ S j, (sw S o i).getD y false = true := by
  intro i
  induction i with
  | zero => intro _ j hj; omega
  | succ i ih =>
    intro hi j hj hoj y hy
    unfold sw
    by_cases hji : j = i
    · subst hji
      have h1 := sw_mono hS ho j (by omega) j hoj
      rw [if_pos h1]
      exact (mk_at (n := n) _ _ (by rw [sw_len]; exact ho) (hS j (by omega)) y).2 (.inr hy)
    · have h1 := ih (by omega) j (by omega) hoj y hy
      split
      · exact (mk_at (n := n) _ _ (by rw [sw_len]; exact ho) (hS i (by omega)) y).2 (.inl h1)
      · exact h1
theorem sw_closed {o : List Bool} (ho : o.length = n) (hc : ∀ j, j < n → o.getD j false = true → ∀ y ∈ S j, o.getD y false = true) : ∀ i, i ≤ n → ∀ z, (sw S o i).getD z false = true → o.getD z false = true := by
  intro i
  induction i with
  | zero => intro _ z h; exact h
  | succ i ih =>
    intro hi z hz
    unfold sw at hz
    split at hz
    · rename_i hsi
      rcases (mk_at (n := n) _ _ (by rw [sw_len]; exact ho) (hS i (by omega)) z).1 hz with h1 | h1
      · exact ih (by omega) z h1
      · exact hc i (by omega) (ih (by omega) i hsi) z h1
    · exact ih (by omega) z hz
theorem rds_spec {r : Nat} (hr : r < n) (z : Nat) : (rds S n ((List.replicate n false).set r true) n).getD z false = true ↔ Rch S r z := by
  let o0 := (List.replicate n false).set r true
  have ho0 : o0.length = n := by simp [o0]
  have hat0 : ∀ z, o0.getD z false = true ↔ z = r := fun z => by
    show ((List.replicate n false).set r true).getD z false = true ↔ z = r
    rw [List.getD_eq_getElem?_getD, List.getElem?_set]
    by_cases h : r = z
    · subst h; simp [hr]
    · rw [if_neg h, ← List.getD_eq_getElem?_getD, rep_getD]
      simp [Ne.symm h]
  have hlen : ∀ j, (rds S n o0 j).length = n := fun j => by rw [rds_len, ho0]
  have hsound : ∀ j z, (rds S n o0 j).getD z false = true → Rch S r z := by
    intro j
    induction j with
    | zero => intro z hz; rw [(hat0 z).1 hz]; exact .refl _
    | succ j ih => intro z hz; exact sw_sound hS (hlen j) ih n (Nat.le_refl _) z hz
  have hmono : ∀ j, ∀ z, o0.getD z false = true → (rds S n o0 j).getD z false = true := by
    intro j
    induction j with
    | zero => intro z h; exact h
    | succ j ih => intro z h; exact sw_mono hS (hlen j) n (Nat.le_refl _) z (ih z h)
  let C : Nat → Prop := fun j => ∀ i, i < n → (rds S n o0 j).getD i false = true → ∀ y ∈ S i, (rds S n o0 j).getD y false = true
  have key : ∀ j, C j ∨ cnt n (fun z => (rds S n o0 j).getD z false) + j + 1 ≤ n := by
    intro j
    induction j with
    | zero =>
      refine .inr ?_
      have h1 := cnt_upd (n := n) (s := fun _ => false) hr rfl
      have e : upd (fun _ => false) r = fun z => (rds S n o0 0).getD z false := by
        funext z
        rw [Bool.eq_iff_iff, upd_true]
        show _ ↔ o0.getD z false = true
        rw [hat0]
        simp
      rw [e] at h1
      have hcl : cnt n (fun _ => false) = n := by
        unfold cnt
        rw [List.filter_eq_self.2 (by simp)]
        simp
      omega
    | succ j ih =>
      by_cases hc : C j
      · refine .inl fun i hi h y hy => ?_
        have h1 := sw_closed hS (hlen j) hc n (Nat.le_refl _) i h
        exact sw_mono hS (hlen j) n (Nat.le_refl _) y (hc i hi h1 y hy)
      · rcases ih with ih | ih
        · exact (hc ih).elim
        · refine .inr ?_
          have hex : ∃ i, i < n ∧ (rds S n o0 j).getD i false = true ∧ ∃ y, y ∈ S i ∧ (rds S n o0 j).getD y false = false := by
            simp only [C] at hc
            simp only [Classical.not_forall] at hc
            obtain ⟨i, hi, h1, y, hy, h2⟩ := hc
            exact ⟨i, hi, h1, y, hy, by simpa using h2⟩
          obtain ⟨i, hi, h1, y, hy, h2⟩ := hex
          have h3 := sw_step hS (hlen j) n (Nat.le_refl _) i hi h1 y hy
          have hyn := hS i hi y hy
          have h4 := cnt_upd (n := n) (s := fun z => (rds S n o0 j).getD z false) hyn h2
          have h5 : cnt n (fun z => (rds S n o0 (j + 1)).getD z false) ≤ cnt n (upd (fun z => (rds S n o0 j).getD z false) y) := cnt_mono fun z hz => by
            rcases upd_true.1 hz with rfl | hz
            · exact h3
            · exact sw_mono hS (hlen j) n (Nat.le_refl _) z hz
          omega
  have hC : C n := by
    rcases key n with h | h
    · exact h
    · omega
  constructor
  · exact hsound n z
  · intro hrch
    have hlt : ∀ x z, Rch S x z → x < n → z < n ∧ ((rds S n o0 n).getD x false = true → (rds S n o0 n).getD z false = true) := by
      intro x z hxz
      induction hxz with
      | refl x => exact fun hx => ⟨hx, id⟩
      | @head x y z hy _ ih =>
        intro hx
        have := ih (hS x hx y hy)
        exact ⟨this.1, fun h => this.2 (hC x hx h y hy)⟩
    exact (hlt r z hrch hr).2 (hmono n r ((hat0 r).2 rfl))
end
theorem m_reach {L : List (List Int)} (hm : mayS L = true) {r : Nat} (hr : r < L.length) :
    m_lockstepref06_Reach (gOf L) (r : Int) (-1 : Int) = some (rds (sN L) L.length ((List.replicate L.length false).set r true) L.length) := by
  obtain ⟨h1, h2, h3⟩ := mayS_iff.1 hm
  have hroom : (1000 : Nat) ≤ room := by decide
  have hS := sN_lt hm
  have hgs : (gOf L).Succ = L := rfl
  have hlenS : ∀ a, (sN L a).length = (L.getD a []).length := fun a => by simp [sN]
  have hin : ∀ (o : List Bool) (i : Nat), o.length = L.length → i < L.length → loopO (m_lockstepref06_Reach_L1 (gOf L) (-1) (i : Int)) ((0 : Int), o) = some (if o.getD i false = true then mk o (sN L i) else o) := fun o i ho hi => by
    have hb := okL_len (h3 i hi)
    by_cases hoi : o.getD i false = true
    · rw [if_pos hoi]
      have hmi : ∀ k, (mk o ((sN L i).take k)).getD i false = true := fun k => (mk_at (n := L.length) _ _ ho (fun y hy => hS i hi y (List.mem_of_mem_take hy)) i).2 (.inl hoi)
      have hml : ∀ k, (mk o ((sN L i).take k)).length = L.length := fun k => by rw [mk_len, ho]
      refine loop_seq (m_lockstepref06_Reach_L1 (gOf L) (-1) (i : Int)) (fun k => (((k : Nat) : Int), mk o ((sN L i).take k))) _ (L.getD i []).length (fun k hk => ?_) ?_
      · show m_lockstepref06_Reach_L1 (gOf L) (-1) (i : Int) (_, _) = _
        unfold m_lockstepref06_Reach_L1
        obtain ⟨a0, a1⟩ := okL_at (h3 i hi) hk
        simp only [hgs, nat_nat, hmi]
        rw [chk_pos (inb (by rw [hml]; exact hi)), chk_imp (inb hi), cond_true, dlt_t hk, cond_true, chk_pos (inb hi), chk_pos (inb hk)]
        have hne : ((L.getD i []).getD k 0 != (-1 : Int)) = true := by rw [bne_iff_ne]; omega
        rw [hne, cond_true, chk_pos (inb hi), chk_pos (inb hk), chk_pos ⟨a0, by rw [hml]; exact a1⟩, w1 (by omega)]
        have e : mk o ((sN L i).take (k + 1)) = (mk o ((sN L i).take k)).set ((L.getD i []).getD k 0).toNat true := by
          have hk' : k < (sN L i).length := by rw [hlenS]; exact hk
          rw [List.take_succ_eq_append_getElem hk']
          unfold mk
          rw [List.foldl_append]
          have : (sN L i)[k] = ((L.getD i []).getD k 0).toNat := by rw [getD_eq_of_lt _ _ _ hk]; simp [sN]
          rw [this]
          rfl
        rw [e]
        rfl
      · show m_lockstepref06_Reach_L1 (gOf L) (-1) (i : Int) (_, _) = _
        unfold m_lockstepref06_Reach_L1
        simp only [hgs, nat_nat, hmi]
        rw [chk_pos (inb (by rw [hml]; exact hi)), chk_imp (inb hi), cond_true, dlt_f, cond_false]
        have : (sN L i).take (L.getD i []).length = sN L i := by rw [← hlenS]; exact List.take_length ..
        rw [this]
    · have hof : o.getD i false = false := by simpa using hoi
      rw [if_neg hoi]
      apply loopO_done
      unfold m_lockstepref06_Reach_L1
      simp only [hgs, nat_nat, hof]
      rw [chk_pos (inb (by rw [ho]; exact hi)), chk_imp (inb hi), cond_false, cond_false]
  have hsw : ∀ o : List Bool, o.length = L.length → loopO (m_lockstepref06_Reach_L2 (gOf L) (-1)) ((0 : Int), o) = some (sw (sN L) o L.length) := fun o ho => by
    refine loop_seq (m_lockstepref06_Reach_L2 (gOf L) (-1)) (fun i => (((i : Nat) : Int), sw (sN L) o i)) _ L.length (fun i hi => ?_) ?_
    · show m_lockstepref06_Reach_L2 (gOf L) (-1) (_, _) = _
      unfold m_lockstepref06_Reach_L2
      have hl : (sw (sN L) o i).length = L.length := by rw [sw_len, ho]
      simp only [hl, dlt_t hi, cond_true]
      rw [hin _ i hl hi, w1 (by omega)]
      rfl
    · show m_lockstepref06_Reach_L2 (gOf L) (-1) (_, _) = _
      unfold m_lockstepref06_Reach_L2
      have hl : (sw (sN L) o L.length).length = L.length := by rw [sw_len, ho]
      simp only [hl, dlt_f, cond_false]
  unfold m_lockstepref06_Reach
  simp only [hgs, nat_nat]
  rw [chk_pos ⟨by omega, Int.le_refl _, by omega⟩]
  have hne : ((r : Int) == (-1 : Int)) = false := by rw [beq_eq_false_iff_ne]; omega
  rw [hne, cond_false, chk_pos (inb (by simpa using hr))]
  have hl0 : ((List.replicate L.length false).set r true).length = L.length := by simp
  have : loopO (m_lockstepref06_Reach_L3 (gOf L) (-1)) ((0 : Int), (List.replicate L.length false).set r true) = some (rds (sN L) L.length ((List.replicate L.length false).set r true) L.length) := by
    refine loop_seq (m_lockstepref06_Reach_L3 (gOf L) (-1)) (fun j => (((j : Nat) : Int), rds (sN L) L.length ((List.replicate L.length false).set r true) j)) _ L.length (fun j hj => ?_) ?_
    · show m_lockstepref06_Reach_L3 (gOf L) (-1) (_, _) = _
      unfold m_lockstepref06_Reach_L3
      have hl : (rds (sN L) L.length ((List.replicate L.length false).set r true) j).length = L.length := by rw [rds_len, hl0]
      simp only [hl, dlt_t hj, cond_true]
      rw [hsw _ hl, w1 (by omega)]
      rfl
    · show m_lockstepref06_Reach_L3 (gOf L) (-1) (_, _) = _
      unfold m_lockstepref06_Reach_L3
      have hl : (rds (sN L) L.length ((List.replicate L.length false).set r true) L.length).length = L.length := by rw [rds_len, hl0]
      simp only [hl, dlt_f, cond_false]
  rw [this]
  rfl
end Go.Proofs.Ytlkcijaejngomaa

namespace Go.Proofs.Ytlkcijaejngomaa
open Go Go.RowKit
set_option linter.unusedVariables false
set_option linter.unusedSimpArgs false

def pos : List Nat → Nat → Nat
  | [], _ => 0
  | x :: l, z => if x = z then 0 else pos l z + 1
theorem pos_cons (x : Nat) (l : List Nat) (z : Nat) : pos (x :: l) z = if x = z then 0 else pos l z + 1 := rfl
theorem pos_app {A l : List Nat} {z : Nat} (h : z ∉ A) : pos (A ++ l) z = A.length + pos l z := by
  induction A with
  | nil => simp
  | cons x A ih =>
    have h1 : x ≠ z := fun e => h (by rw [e]; exact List.mem_cons_self ..)
    have h2 : z ∉ A := fun e => h (List.mem_cons_of_mem _ e)
    rw [List.cons_append, pos_cons, if_neg h1, ih h2, List.length_cons]
    omega
theorem pos_get {P : List Nat} (hd : P.Nodup) {i : Nat} (hi : i < P.length) : P[i] ∉ P.take i ∧ pos P P[i] = i := by
  have e : P = P.take i ++ P[i] :: P.drop (i + 1) := by rw [← List.drop_eq_getElem_cons hi, List.take_append_drop]
  have hn : P[i] ∉ P.take i := by
    rw [e] at hd
    have := (List.nodup_append.1 hd).2.2
    exact fun hm => this _ hm _ (List.mem_cons_self ..) rfl
  refine ⟨hn, ?_⟩
  have h2 : pos (P.take i ++ P[i] :: P.drop (i + 1)) P[i] = i := by
    rw [pos_app hn]
    have : pos (P[i] :: P.drop (i + 1)) P[i] = 0 := by rw [pos_cons, if_pos rfl]
    rw [this, List.length_take]
    omega
  rw [← e] at h2
  exact h2
def atL (P : List Nat) (n i : Nat) : List Int := (List.range n).map fun z => if z ∈ P.take i then ((pos P z + 1 : Nat) : Int) else 0
theorem atL_len (P : List Nat) (n i : Nat) : (atL P n i).length = n := by simp [atL]
theorem atL_at {P : List Nat} {n i z : Nat} (hz : z < n) : (atL P n i).getD z 0 = if z ∈ P.take i then ((pos P z + 1 : Nat) : Int) else 0 := by unfold atL; rw [getD_mr hz]
theorem atL_set {P : List Nat} {n i : Nat} (hd : P.Nodup) (hi : i < P.length) : (atL P n i).set P[i] ((i + 1 : Nat) : Int) = atL P n (i + 1) := by
  obtain ⟨h1, h2⟩ := pos_get hd hi
  unfold atL
  rw [set_mr]
  apply mr_congr
  intro z hz
  by_cases hzi : z = P[i]
  · rw [if_pos hzi, if_pos (by rw [List.take_succ_eq_append_getElem hi, hzi]; exact List.mem_append.2 (.inr (List.mem_singleton.2 rfl))), hzi, h2]
  · rw [if_neg hzi]
    have : z ∈ P.take (i + 1) ↔ z ∈ P.take i := by
      rw [List.take_succ_eq_append_getElem hi, List.mem_append]
      simp [hzi]
    simp only [this]

def fwdAt (L : List (List Int)) (j k : Nat) : Bool := (List.range k).all fun m => decide ((j : Int) < (L.getD j []).getD m 0)
def fwdTo (L : List (List Int)) (i : Nat) : Bool := (List.range i).all fun j => fwdAt L j (L.getD j []).length
theorem all_succ {n : Nat} {p : Nat → Bool} : (List.range (n + 1)).all p = ((List.range n).all p && p n) := by
  rw [List.range_succ, List.all_append]; simp
end Go.Proofs.Ytlkcijaejngomaa

namespace Go.Proofs.Ytlkcijaejngomaa
open Go Go.RowKit
set_option linter.unusedVariables false
set_option linter.unusedSimpArgs false

/-- Reached from the root, by a way of so many steps at most. -/
inductive Rc (S : Nat → List Nat) (r : Nat) : Nat → Prop
  | root : Rc S r r
  | step {x y : Nat} (h : Rc S r x) (hy : y ∈ S x) : Rc S r y
/-- Reached without a block. -/
inductive Av (S : Nat → List Nat) (r z : Nat) : Nat → Prop
  | root (h : r ≠ z) : Av S r z r
  | step {x y : Nat} (h : Av S r z x) (hy : y ∈ S x) (hz : y ≠ z) : Av S r z y
/-- So, in so many steps at most. -/
inductive AvN (S : Nat → List Nat) (r z : Nat) : Nat → Nat → Prop
  | root (h : r ≠ z) (k : Nat) : AvN S r z k r
  | step {k x y : Nat} (h : AvN S r z k x) (hy : y ∈ S x) (hz : y ≠ z) : AvN S r z (k + 1) y

section
variable {S : Nat → List Nat} {r : Nat}
theorem rc_iff {x : Nat} : Rc S r x ↔ Rch S r x := by
  constructor
  · intro h
    induction h with
    | root => exact .refl _
    | step _ hy ih => exact ih.tail hy
  · intro h
    have key : ∀ a b, Rch S a b → Rc S r a → Rc S r b := by
      intro a b hab
      induction hab with
      | refl x => exact id
      | head hy _ ih => exact fun ha => ih (.step ha hy)
    exact key _ _ h .root
/-- The ways on without a block. -/
def wo (S : Nat → List Nat) (z : Nat) : Nat → List Nat := fun x => (S x).filter fun y => decide (y ≠ z)
theorem av_iff {z x : Nat} : Av S r z x ↔ r ≠ z ∧ Rch (wo S z) r x := by
  constructor
  · intro h
    induction h with
    | root h => exact ⟨h, .refl _⟩
    | step _ hy hz ih => exact ⟨ih.1, ih.2.tail (List.mem_filter.2 ⟨hy, by simpa using hz⟩)⟩
  · rintro ⟨hr, h⟩
    have key : ∀ a b, Rch (wo S z) a b → Av S r z a → Av S r z b := by
      intro a b hab
      induction hab with
      | refl x => exact id
      | head hy _ ih =>
        obtain ⟨h1, h2⟩ := List.mem_filter.1 hy
        exact fun ha => ih (.step ha h1 (by simpa using h2))
    exact key _ _ h (.root hr)
theorem Av.rc {z x : Nat} (h : Av S r z x) : Rc S r x := by
  induction h with
  | root _ => exact .root
  | step _ hy _ ih => exact .step ih hy
theorem Av.ne {z x : Nat} (h : Av S r z x) : x ≠ z := by
  cases h with
  | root h => exact h
  | step _ _ hz => exact hz
theorem AvN.av {z k x : Nat} (h : AvN S r z k x) : Av S r z x := by
  induction h with
  | root h => exact .root h
  | step _ hy hz ih => exact .step ih hy hz
theorem AvN.up {z k x : Nat} (h : AvN S r z k x) : AvN S r z (k + 1) x := by
  induction h with
  | root h k => exact .root h _
  | step _ hy hz ih => exact .step ih hy hz
theorem AvN.mono {z k m x : Nat} (h : AvN S r z k x) (hm : k ≤ m) : AvN S r z m x := by
  obtain ⟨d, rfl⟩ := Nat.exists_eq_add_of_le hm
  clear hm
  induction d with
  | zero => exact h
  | succ d ih => exact ih.up
theorem Av.avn {z x : Nat} (h : Av S r z x) : ∃ k, AvN S r z k x := by
  induction h with
  | root h => exact ⟨0, .root h 0⟩
  | step _ hy hz ih => obtain ⟨k, hk⟩ := ih; exact ⟨k + 1, .step hk hy hz⟩
/-- A way without z goes by y, or is one without y. -/
theorem AvN.via {z k x : Nat} (h : AvN S r z k x) (y : Nat) : AvN S r y k x ∨ AvN S r z k y := by
  induction h with
  | root h k => by_cases hy : r = y
                · subst hy; exact .inr (.root h _)
                · exact .inl (.root hy _)
  | @step k x w h hy hz ih =>
    rcases ih with h1 | h1
    · by_cases hw : w = y
      · subst hw; exact .inr (.step h hy hz)
      · exact .inl (.step h1 hy hw)
    · exact .inr h1.up
/-- All that is reached without something is so within a number of steps. -/
theorem avn_bound (n : Nat) : ∃ K, ∀ z, z < n → ∀ x, x < n → Av S r z x → AvN S r z K x := by
  have one : ∀ z m, ∃ K, ∀ x, x < m → Av S r z x → AvN S r z K x := by
    intro z m
    induction m with
    | zero => exact ⟨0, fun x hx => absurd hx (Nat.not_lt_zero x)⟩
    | succ m ih =>
      obtain ⟨K, hK⟩ := ih
      by_cases h : Av S r z m
      · obtain ⟨k, hk⟩ := h.avn
        refine ⟨max K k, fun x hx ha => ?_⟩
        rcases Nat.lt_succ_iff_lt_or_eq.1 hx with h1 | rfl
        · exact (hK x h1 ha).mono (Nat.le_max_left ..)
        · exact hk.mono (Nat.le_max_right ..)
      · refine ⟨K, fun x hx ha => ?_⟩
        rcases Nat.lt_succ_iff_lt_or_eq.1 hx with h1 | rfl
        · exact hK x h1 ha
        · exact absurd ha h
  have two : ∀ m, ∃ K, ∀ z, z < m → ∀ x, x < n → Av S r z x → AvN S r z K x := by
    intro m
    induction m with
    | zero => exact ⟨0, fun x hx => absurd hx (Nat.not_lt_zero x)⟩
    | succ m ih =>
      obtain ⟨K, hK⟩ := ih
      obtain ⟨k, hk⟩ := one m n
      refine ⟨max K k, fun z hz x hx ha => ?_⟩
      rcases Nat.lt_succ_iff_lt_or_eq.1 hz with h1 | rfl
      · exact (hK z h1 x hx ha).mono (Nat.le_max_left ..)
      · exact (hk x hx ha).mono (Nat.le_max_right ..)
  exact two n
end

/-- Going up in a tree: z is x, or one comes to it from x. -/
inductive UpTo (par : Nat → Int) : Nat → Nat → Prop
  | refl (x : Nat) : UpTo par x x
  | up {x y z : Nat} (h : par x = (y : Int)) (t : UpTo par y z) : UpTo par x z
/-- A way on that goes on later in the order alone. -/
inductive Fw (S : Nat → List Nat) (at_ : Nat → Nat) (u : Nat) : Nat → Prop
  | refl : Fw S at_ u u
  | step {v w : Nat} (h : Fw S at_ u v) (hw : w ∈ S v) (hl : at_ v < at_ w) : Fw S at_ u w
section
variable {S : Nat → List Nat} {at_ : Nat → Nat} {par : Nat → Int}
theorem Fw.le {u w : Nat} (h : Fw S at_ u w) : at_ u ≤ at_ w := by
  induction h with
  | refl => exact Nat.le_refl _
  | step _ _ hl ih => omega
theorem Fw.trans {u v w : Nat} (h : Fw S at_ u v) (k : Fw S at_ v w) : Fw S at_ u w := by
  induction k with
  | refl => exact h
  | step _ hw hl ih => exact .step ih hw hl
theorem Fw.av {r d u w : Nat} (h : Fw S at_ u w) (ha : Av S r d u) (hd : at_ d < at_ u) : Av S r d w := by
  induction h with
  | refl => exact ha
  | @step v w h hw hl ih => exact .step ih hw (by rintro rfl; have := h.le; omega)
theorem UpTo.trans {x y z : Nat} (h : UpTo par x y) (k : UpTo par y z) : UpTo par x z := by
  induction h with
  | refl x => exact k
  | up h _ ih => exact .up h (ih k)
theorem anc_up {x p z : Nat} (h : par x = (p : Int)) : UpTo par x z ↔ z = x ∨ UpTo par p z := by
  constructor
  · intro k
    cases k with
    | refl => exact .inl rfl
    | up h' t => rw [h] at h'; cases Int.ofNat.inj h'; exact .inr t
  · rintro (rfl | k)
    · exact .refl _
    · exact .up h k
theorem anc_top {x z : Nat} (h : ∀ p : Nat, par x ≠ (p : Int)) : UpTo par x z ↔ z = x := by
  constructor
  · intro k
    cases k with
    | refl => rfl
    | up h' t => exact absurd h' (h _)
  · rintro rfl; exact .refl _

/-- What holds of a tree that is made better: 'at_' the place in the order. -/
structure Inv (S : Nat → List Nat) (r n : Nat) (at_ : Nat → Nat) (par : Nat → Int) : Prop where
  top : par r = -1
  kind : ∀ x, x < n → par x = -2 ∨ x = r ∨ ∃ z : Nat, par x = (z : Int)
  up : ∀ x, x < n → ∀ z : Nat, par x = (z : Int) → z < n ∧ par z ≠ -2 ∧ at_ z < at_ x ∧ Fw S at_ z x
  rc : ∀ x, x < n → par x ≠ -2 → Rc S r x
  all : ∀ x, x < n → par x ≠ -2 → ∀ d, ¬ UpTo par x d → Av S r d x
end
section
variable {S : Nat → List Nat} {at_ : Nat → Nat} {par : Nat → Int} {r n : Nat}
theorem Inv.anc (h : Inv S r n at_ par) {x z : Nat} (k : UpTo par x z) (hx : x < n) (hp : par x ≠ -2) : z < n ∧ par z ≠ -2 ∧ at_ z ≤ at_ x ∧ Fw S at_ z x := by
  induction k with
  | refl x => exact ⟨hx, hp, Nat.le_refl _, .refl⟩
  | @up x y z hxy t ih =>
    obtain ⟨h1, h2, h3, h4⟩ := h.up x hx y hxy
    obtain ⟨i1, i2, i3, i4⟩ := ih h1 h2
    exact ⟨i1, i2, by omega, i4.trans h4⟩
theorem Inv.root_anc (h : Inv S r n at_ par) {z : Nat} : UpTo par r z ↔ z = r := anc_top fun p hp => by rw [h.top] at hp; omega
theorem Inv.strict (h : Inv S r n at_ par) {x z : Nat} (k : UpTo par x z) (hx : x < n) (hp : par x ≠ -2) : z = x ∨ at_ z < at_ x := by
  cases k with
  | refl => exact .inl rfl
  | up hxy t =>
    obtain ⟨h1, h2, h3, h4⟩ := h.up x hx _ hxy
    obtain ⟨i1, i2, i3, i4⟩ := h.anc t h1 h2
    exact .inr (by omega)
theorem Inv.antisymm (h : Inv S r n at_ par) {x z : Nat} (k : UpTo par x z) (m : UpTo par z x) (hx : x < n) (hp : par x ≠ -2) : z = x := by
  rcases h.strict k hx hp with rfl | h1
  · rfl
  · obtain ⟨i1, i2, i3, i4⟩ := h.anc k hx hp
    have := (h.anc m i1 i2).2.2.1
    omega
/-- All go up to the root. -/
theorem Inv.toRoot (h : Inv S r n at_ par) : ∀ m x, at_ x ≤ m → x < n → par x ≠ -2 → UpTo par x r := by
  intro m
  induction m with
  | zero =>
    intro x hm hx hp
    rcases h.kind x hx with h1 | rfl | ⟨z, hz⟩
    · exact absurd h1 hp
    · exact .refl _
    · have := (h.up x hx z hz).2.2.1; omega
  | succ m ih =>
    intro x hm hx hp
    rcases h.kind x hx with h1 | rfl | ⟨z, hz⟩
    · exact absurd h1 hp
    · exact .refl _
    · obtain ⟨h1, h2, h3, h4⟩ := h.up x hx z hz
      exact .up hz (ih z (by omega) h1 h2)

/-- Where two meet. -/
def MeetAt (par : Nat → Int) (a b m : Nat) : Prop := ∀ w, UpTo par m w ↔ UpTo par a w ∧ UpTo par b w
theorem meet_self {a : Nat} : MeetAt par a a a := fun w => by simp
theorem meet_swap {a b m : Nat} (h : MeetAt par a b m) : MeetAt par b a m := fun w => by rw [h w]; exact And.comm
/-- The later one goes up. -/
theorem Inv.meet_left (h : Inv S r n at_ par) (hinj : ∀ x y, x < n → y < n → par x ≠ -2 → par y ≠ -2 → at_ x = at_ y → x = y) {a b p m : Nat} (ha : a < n) (hpa : par a ≠ -2) (hb : b < n) (hpb : par b ≠ -2) (hab : a ≠ b) (hl : at_ b ≤ at_ a) (hp : par a = (p : Int)) (k : MeetAt par p b m) : MeetAt par a b m := fun w => by
  rw [k w]
  constructor
  · rintro ⟨h1, h2⟩; exact ⟨.up hp h1, h2⟩
  · rintro ⟨h1, h2⟩
    rcases (anc_up hp).1 h1 with rfl | h1
    · exfalso
      rcases h.strict h2 hb hpb with h3 | h3
      · exact hab h3
      · omega
    · exact ⟨h1, h2⟩
end

/-! ### one entry is made better -/
section
variable {S : Nat → List Nat} {at_ : Nat → Nat} {par : Nat → Int} {r n : Nat}
def updP (par : Nat → Int) (y : Nat) (v : Int) : Nat → Int := fun x => if x = y then v else par x
/-- 'z' is where all meet that go on at 'y', of those that have an entry. -/
def Best (S : Nat → List Nat) (n : Nat) (par : Nat → Int) (y z : Nat) : Prop := ∀ w, UpTo par z w ↔ ∀ p, p < n → y ∈ S p → par p ≠ -2 → UpTo par p w

theorem anc_upd_far {y : Nat} {v : Int} {x z : Nat} (k : UpTo par x z) (hy : ¬ UpTo par x y) : UpTo (updP par y v) x z := by
  induction k with
  | refl x => exact .refl _
  | @up x q z h t ih =>
    have hxy : x ≠ y := by rintro rfl; exact hy (.refl _)
    refine .up (y := q) ?_ (ih fun k => hy (.up h k))
    unfold updP; rw [if_neg hxy]; exact h
theorem anc_upd_low {y : Nat} {v : Int} {x : Nat} (k : UpTo par x y) : UpTo (updP par y v) x y := by
  induction k with
  | refl x => exact .refl _
  | @up x q z h t ih =>
    by_cases hxy : x = z
    · subst hxy; exact .refl _
    · refine .up (y := q) ?_ ih
      unfold updP; rw [if_neg hxy]; exact h
/-- What one comes to now: something that one came to, or by way of the entry that is new. -/
theorem anc_upd_inv {y : Nat} {v : Int} {x w : Nat} (k : UpTo (updP par y v) x w) : UpTo par x w ∨ (UpTo par x y ∧ UpTo (updP par y v) y w) := by
  induction k with
  | refl x => exact .inl (.refl _)
  | @up x q w h t ih =>
    by_cases hxy : x = y
    · subst hxy; exact .inr ⟨.refl _, .up h t⟩
    · unfold updP at h; rw [if_neg hxy] at h
      rcases ih with h1 | ⟨h1, h2⟩
      · exact .inl (.up h h1)
      · exact .inr ⟨.up h h1, h2⟩

theorem low_or {y : Nat} {v : Int} {x d : Nat} (k : UpTo par x y) (hd : UpTo par x d) : UpTo par y d ∨ UpTo (updP par y v) x d := by
  induction k with
  | refl x => exact .inl hd
  | @up x q y hq t ih =>
    by_cases e : x = y
    · subst e; exact .inl hd
    · rcases (anc_up hq).1 hd with rfl | k
      · exact .inr (.refl _)
      · rcases ih k with h1 | h1
        · exact .inl h1
        · exact .inr (.up (y := q) (by unfold updP; rw [if_neg e]; exact hq) h1)

structure Better (S : Nat → List Nat) (r n : Nat) (at_ : Nat → Nat) (par : Nat → Int) (y z : Nat) : Prop where
  inv : Inv S r n at_ par
  hy : y < n
  hr : y ≠ r
  hz : z < n
  best : Best S n par y z
  fwd : ∃ p, p < n ∧ y ∈ S p ∧ par p ≠ -2 ∧ at_ p < at_ y
variable {y z : Nat}
theorem Better.zlt (h : Better S r n at_ par y z) : UpTo par z z ∧ par z ≠ -2 ∧ at_ z < at_ y ∧ Fw S at_ z y := by
  obtain ⟨p, hp, hyp, hpp, hl⟩ := h.fwd
  obtain ⟨h1, h2, h3, h4⟩ := h.inv.anc ((h.best z).1 (.refl _) p hp hyp hpp) hp hpp
  exact ⟨.refl _, h2, by omega, .step h4 hyp hl⟩
/-- Above the new entry nothing has changed. -/
theorem Better.above (h : Better S r n at_ par y z) {w : Nat} : UpTo (updP par y z) z w ↔ UpTo par z w := by
  obtain ⟨_, h2, h3, _⟩ := h.zlt
  have hn : ¬ UpTo par z y := fun k => by have := (h.inv.anc k h.hz h2).2.2.1; omega
  constructor
  · intro k
    rcases anc_upd_inv k with h1 | ⟨h1, _⟩
    · exact h1
    · exact absurd h1 hn
  · intro k; exact anc_upd_far k hn
theorem Better.here (h : Better S r n at_ par y z) {w : Nat} : UpTo (updP par y z) y w ↔ w = y ∨ UpTo par z w := by
  rw [anc_up (p := z) (by simp [updP]), h.above]
theorem Better.av_here (h : Better S r n at_ par y z) {d : Nat} (hd : ¬ UpTo (updP par y z) y d) : Av S r d y := by
  rw [h.here] at hd
  have h1 : ¬ ∀ p, p < n → y ∈ S p → par p ≠ -2 → UpTo par p d := fun hh => hd (.inr ((h.best d).2 hh))
  simp only [Classical.not_forall] at h1
  obtain ⟨p, hp, hyp, hpp, hnp⟩ := h1
  exact .step (h.inv.all p hp hpp d hnp) hyp fun e => hd (.inl e.symm)
theorem Better.inv' (h : Better S r n at_ par y z) : Inv S r n at_ (updP par y z) := by
  obtain ⟨hzz, hz2, hzl, hzf⟩ := h.zlt
  obtain ⟨p, hp, hyp, hpp, hl⟩ := h.fwd
  have hne : ∀ x, updP par y z x ≠ -2 → x = y ∨ par x ≠ -2 := fun x hx => by
    by_cases e : x = y
    · exact .inl e
    · unfold updP at hx; rw [if_neg e] at hx; exact .inr hx
  have hyv : updP par y z y = (z : Int) := by simp [updP]
  have hyo : ∀ x, x ≠ y → updP par y z x = par x := fun x e => by unfold updP; rw [if_neg e]
  refine ⟨by rw [hyo _ (Ne.symm h.hr)]; exact h.inv.top, fun x hx => ?_, fun x hx w hw => ?_, fun x hx hxp => ?_, fun x hx hxp d hd => ?_⟩
  · by_cases e : x = y
    · subst e; exact .inr (.inr ⟨z, hyv⟩)
    · rw [hyo x e]; exact h.inv.kind x hx
  · have hzn : ∀ w, par w ≠ -2 → updP par y z w ≠ -2 := fun w hw => by
      by_cases e : w = y
      · subst e; rw [hyv]; omega
      · rw [hyo w e]; exact hw
    by_cases e : x = y
    · subst e
      rw [hyv] at hw
      cases Int.ofNat.inj hw
      exact ⟨h.hz, hzn _ hz2, hzl, hzf⟩
    · rw [hyo x e] at hw
      obtain ⟨h1, h2, h3, h4⟩ := h.inv.up x hx w hw
      exact ⟨h1, hzn _ h2, h3, h4⟩
  · rcases hne x hxp with rfl | h1
    · exact .step (h.inv.rc p hp hpp) hyp
    · exact h.inv.rc x hx h1
  · by_cases e : x = y
    · subst e; exact h.av_here hd
    · rw [hyo x e] at hxp
      by_cases hxd : UpTo par x d
      · -- by way of the entry that is new
        by_cases hxy : UpTo par x y
        · have hyd : ¬ UpTo (updP par y z) y d := fun k => hd ((anc_upd_low hxy).trans k)
          have hav := h.av_here hyd
          have hf := (h.inv.anc hxy hx hxp).2.2.2
          -- d is strictly above y
          have hdy : UpTo par y d := by
            rcases low_or (v := (z : Int)) hxy hxd with h1 | h1
            · exact h1
            · exact absurd h1 hd
          by_cases hpy : par y = -2
          · -- an entry that was none: nothing above it
            have : d = y := by
              refine (anc_top (par := par) fun p hp => ?_).1 hdy
              rw [hpy] at hp; omega
            subst this
            exact absurd (.refl _) hyd
          · rcases h.inv.strict hdy h.hy hpy with rfl | hlt
            · exact absurd (.refl _) hyd
            · exact hf.av hav hlt
        · exact absurd (anc_upd_far hxd hxy) hd
      · exact h.inv.all x hx hxp d hxd
end
end Go.Proofs.Ytlkcijaejngomaa
