/-
  The machine, the program's functions and the laws' arithmetic: part 5 of 6.
-/
import Derived.Test.YtcddajbcbkbipaaGreatDoorPk4
import Derived.OpenShut
import Derived.ShutString
namespace Go.Proofs.YtcddajbcbkbipaaGreatDoor
open Go Go.RowKit
set_option linter.unusedVariables false
set_option maxRecDepth 100000
set_option maxHeartbeats 2000000
noncomputable def m_num_Row_L1 (a_list : List (Int)) : (List (Int) × Int) → Option (LR (List (Int) × Int) (List (Int) ⊕ List (Int))) :=
  fun ((l2, i3) : (List (Int) × Int)) => (bif (decide ((i3 : Int) < (a_list.length : Int))) then (chk (InB i3 a_list.length) (bif (decide (((a_list.getD (i3).toNat (0 : Int)) : Int) < (0 : Int))) then (some (.done (.inr ([] : List Int)))) else (chk (InB i3 a_list.length) ((m_num_Put (wu64 (a_list.getD (i3).toNat (0 : Int)))).bind fun x7 => (chk (l2.length + x7.length ≤ room) (some (.next ((l2 ++ x7), (w64 (i3 + (1 : Int))))))))))) else (some (.done (.inl l2))))
noncomputable def Q183 (a_list : List (Int)) : AV := (.int .i64 (a_list.length : Int))
noncomputable def Q184 (l2 : List (Int)) : AV := (AV.list 1 eU8 (0 : Int) l2 (.own 8))
noncomputable def Q181 (a_list : List (Int)) : AV := (AV.list 1 eI64 (0 : Int) a_list .none)
noncomputable def Q182 : AV := (AV.list 1 eU8 (0 : Int) ([] : List Int) .exact)
noncomputable def m_num_Row (a_list : List (Int)) : Option (List (Int)) :=
  ((m_num_Put (wu64 (a_list.length : Int))).bind fun x1 => ((loopO (S := (List (Int) × Int)) (X := (List (Int) ⊕ List (Int))) (m_num_Row_L1 a_list) (x1, (0 : Int))).bind (fun x9 => (match x9 with | (.inl l4) => (some l4) | (.inr r11) => (some r11)))))
theorem ok_num_Row (a_list : List (Int)) (r : List (Int)) (h : m_num_Row a_list = some r) : Spec Tryz.prog 20 [(AV.list 1 eI64 (0 : Int) a_list .none)] [] (AV.list 1 eU8 (0 : Int) r (.own 20000)) [(20000, .tok 1 5 r.length)] := by
  refine spec_of_awp (fn := Tryz.f20) Tryz.func20 rfl rfl (by kernel_rfl) (fun Γ hn hΓ => ?_)
  have hn : Γ.n = 29 := hn
  unfold m_num_Row at h
  refine rgs [] [(2, Q182)] (⟨[(0, (Q181 a_list))], []⟩ : St) [(AVle (.slice 0 0 (fun _ => []) .exact) Q182)] hn mix (no_hand hΓ) (by kernel_rfl) ⟨av_nil, trivial⟩ ?_
  obtain ⟨x1, hx1, h⟩ := bind_some h
  refine rgs [⟨[], [(20000, 8)], (AV.list 1 eU8 (0 : Int) x1 (.own 20000)), [(20000, .tok 1 5 x1.length)]⟩] [] (⟨[(0, (Q181 a_list)), (3, (AV.list 1 eU8 (0 : Int) x1 (.own 8)))], [(8, .tok 1 5 x1.length)]⟩ : St) [(Spec Tryz.prog 39 [(.int .u64 (wu64 (a_list.length : Int)))] [] (AV.list 1 eU8 (0 : Int) x1 (.own 20000)) [(20000, .tok 1 5 x1.length)])] hn mix (no_hand hΓ) (by kernel_rfl) ⟨(ok_num_Put (wu64 (a_list.length : Int)) x1 hx1), trivial⟩ ?_
  refine awp_seq ?_
  refine rgs0 (⟨[(0, (Q181 a_list)), (3, (AV.list 1 eU8 (0 : Int) x1 (.own 8))), (10, (Q183 a_list)), (11, (.int .i64 (0 : Int)))], [(8, .tok 1 5 x1.length)]⟩ : St) hn mix (no_hand hΓ) (by kernel_rfl) ?_
  refine awp_block ?_
  refine awp_le (st' := (fun ((l2, i3) : (List (Int) × Int)) => (⟨[(0, (Q181 a_list)), (3, (Q184 l2)), (10, (Q183 a_list)), (11, (.int .i64 i3))], [(8, .tok 1 5 l2.length)]⟩ : St)) (x1, (0 : Int))) (Le.refl _ _) ?_
  obtain ⟨x9, hx9, h⟩ := bind_some h
  refine awp_loop (fun ((l2, i3) : (List (Int) × Int)) => (⟨[(0, (Q181 a_list)), (3, (Q184 l2)), (10, (Q183 a_list)), (11, (.int .i64 i3))], [(8, .tok 1 5 l2.length)]⟩ : St)) _ (fun (x_ : (List (Int) ⊕ List (Int))) (e : Exit) (st : St) => match x_ with | (.inl l4) => e = (.exit 0) ∧ Le Γ st (⟨[(3, (AV.list 1 eU8 (0 : Int) l4 (.own 8)))], [(8, .tok 1 5 l4.length)]⟩ : St) | (.inr r_) => e = .ret ∧ retK Tryz.prog Tryz.f20.results.toList [] (AV.list 1 eU8 (0 : Int) r_ (.own 20000)) [(20000, .tok 1 5 r_.length)] e st) ?_ hx9 ?_
  · rintro ⟨l2, i3⟩ y h
    unfold m_num_Row_L1 at h
    refine rgs0 (⟨[(0, (Q181 a_list)), (3, (Q184 l2)), (10, (Q183 a_list)), (11, (.int .i64 i3)), (12, (.bool (decide ((i3 : Int) < (a_list.length : Int)))))], [(8, .tok 1 5 l2.length)]⟩ : St) hn mix (no_hand hΓ) (by kernel_rfl) ?_
    refine awp_seq ?_
    refine awp_cond (decide ((i3 : Int) < (a_list.length : Int))) (by kernel_rfl) (fun hb => ?_) (fun hb => ?_)
    · replace h := cond_t hb h
      clear hb
      refine awp_skip ?_
      refine then_normal ?_
      refine awp_seq ?_
      refine awp_block ?_
      refine rgs0 (⟨[(0, (Q181 a_list)), (3, (Q184 l2)), (4, (.int .i64 i3)), (10, (Q183 a_list)), (11, (.int .i64 i3))], [(8, .tok 1 5 l2.length)]⟩ : St) hn mix (no_hand hΓ) (by kernel_rfl) ?_
      refine awp_seq ?_
      obtain ⟨hc5, h⟩ := chk_some h
      refine rgs [] [] (⟨[(0, (Q181 a_list)), (3, (Q184 l2)), (4, (.int .i64 i3)), (10, (Q183 a_list)), (11, (.int .i64 i3)), (18, (.bool (decide (((a_list.getD (i3).toNat (0 : Int)) : Int) < (0 : Int)))))], [(8, .tok 1 5 l2.length)]⟩ : St) [(InB i3 a_list.length)] hn mix (no_hand hΓ) (by kernel_rfl) ⟨hc5, trivial⟩ ?_
      refine awp_cond (decide (((a_list.getD (i3).toNat (0 : Int)) : Int) < (0 : Int))) (by kernel_rfl) (fun hb => ?_) (fun hb => ?_)
      · replace h := cond_t hb h
        clear hb
        refine rgs [] [(2, Q182)] (⟨[(2, Q182)], []⟩ : St) [(AVle (.slice 0 0 (fun _ => []) .exact) Q182)] hn mix (no_hand hΓ) (by kernel_rfl) ⟨av_nil, trivial⟩ ?_
        refine awp_le (st' := (⟨[(2, (AV.list 1 eU8 (0 : Int) ([] : List Int) (.own 6002)))], [(6002, .tok 1 5 (([] : List Int).length))]⟩ : St)) (Le.trans (le_restrict_eq (st' := (⟨[(2, Q182)], []⟩ : St)) [2] [] (by kernel_rfl) (no_hand hΓ)) (Le.trans (le_tag (t := 2) (nm := 6002) (sz' := 1) (fun i => eU8 (([] : List Int).getD i (0 : Int))) 5 rfl rfl (.inl ⟨rfl, rfl⟩) (fun _ => rfl)) (le_restrict_eq (st' := (⟨[(2, (AV.list 1 eU8 (0 : Int) ([] : List Int) (.own 6002)))], [(6002, .tok 1 5 (([] : List Int).length))]⟩ : St)) [2] [6002] (by kernel_rfl) (no_hand hΓ)))) ?_
        refine awp_ret ?_
        refine then_ret ?_
        refine block_ret ?_
        refine then_ret ?_
        obtain rfl := Option.some.inj h
        exact ⟨(by intro hh; cases hh), rfl, ⟨.inl rfl, [(6002, 20000)], by kernel_rfl⟩⟩
      · replace h := cond_f hb h
        clear hb
        refine awp_skip ?_
        refine then_normal ?_
        obtain ⟨hc6, h⟩ := chk_some h
        obtain ⟨x7, hx7, h⟩ := bind_some h
        obtain ⟨hc8, h⟩ := chk_some h
        refine rg [⟨[], [(20000, 25)], (AV.list 1 eU8 (0 : Int) x7 (.own 20000)), [(20000, .tok 1 5 x7.length)]⟩] [(26, (AV.list 1 eU8 (0 : Int) (l2 ++ x7) (.own 8)))] (⟨[(0, (Q181 a_list)), (3, (AV.list 1 eU8 (0 : Int) (l2 ++ x7) (.own 8))), (10, (Q183 a_list)), (11, (.int .i64 i3))], [(8, .tok 1 5 ((l2 ++ x7).length))]⟩ : St) [(InB i3 a_list.length), (Spec Tryz.prog 39 [(.int .u64 (wu64 (a_list.getD (i3).toNat (0 : Int))))] [] (AV.list 1 eU8 (0 : Int) x7 (.own 20000)) [(20000, .tok 1 5 x7.length)]), (l2.length = l2.length), (l2.length + x7.length ≤ room), (AVle (.slice 1 (l2.length + x7.length) (appF l2.length (fun i => eU8 (l2.getD i (0 : Int))) (fun i => eU8 (x7.getD i (0 : Int)))) (.own 8)) (AV.list 1 eU8 (0 : Int) (l2 ++ x7) (.own 8))), (l2.length + x7.length = (l2 ++ x7).length)] hn mix (no_hand hΓ) (by kernel_rfl) ⟨hc6, (ok_num_Put (wu64 (a_list.getD (i3).toNat (0 : Int))) x7 hx7), rfl, hc8, av_app, (len_app _ _), trivial⟩ ?_
        refine block_normal ?_
        refine then_normal ?_
        refine rg0 (⟨[(0, (Q181 a_list)), (3, (AV.list 1 eU8 (0 : Int) (l2 ++ x7) (.own 8))), (10, (Q183 a_list)), (11, (.int .i64 (w64 (i3 + (1 : Int)))))], [(8, .tok 1 5 ((l2 ++ x7).length))]⟩ : St) hn mix (no_hand hΓ) (by kernel_rfl) ?_
        obtain rfl := Option.some.inj h
        exact ⟨rfl, Le.refl _ _⟩
    · replace h := cond_f hb h
      clear hb
      refine awp_exit ?_
      refine then_exit ?_
      obtain rfl := Option.some.inj h
      exact ⟨(by intro hh; cases hh), rfl, le_restrict_eq [3] [8] (by kernel_rfl) (no_hand hΓ)⟩
  · clear hx9
    rcases x9 with l4 | r11
    · rintro e st' ⟨rfl, hl10⟩
      refine block_here ?_
      refine then_normal ?_
      refine awp_le hl10 ?_
      refine rgs0 (⟨[(2, (AV.list 1 eU8 (0 : Int) l4 (.own 8)))], [(8, .tok 1 5 l4.length)]⟩ : St) hn mix (no_hand hΓ) (by kernel_rfl) ?_
      refine awp_ret ?_
      obtain rfl := Option.some.inj h
      exact ⟨.inl rfl, [(8, 20000)], by kernel_rfl⟩
    · rintro e st' ⟨rfl, hk⟩
      refine block_ret ?_
      refine then_ret ?_
      obtain rfl := Option.some.inj h
      exact hk

noncomputable def m_code_put_L1 (a_list : List (Int)) : (List (Int) × Int) → Option (LR (List (Int) × Int) (List (Int))) :=
  fun ((l1, i2) : (List (Int) × Int)) => (bif (decide ((i2 : Int) < (a_list.length : Int))) then (chk (InB i2 a_list.length) ((m_num_Put (wu64 (a_list.getD (i2).toNat (0 : Int)))).bind fun x5 => (chk (l1.length + x5.length ≤ room) (some (.next ((l1 ++ x5), (w64 (i2 + (1 : Int))))))))) else (some (.done l1)))
noncomputable def Q186 (a_list : List (Int)) : AV := (.int .i64 (a_list.length : Int))
noncomputable def Q185 (a_list : List (Int)) : AV := (AV.list 1 eI64 (0 : Int) a_list .none)
noncomputable def m_code_put (a_b : List (Int)) (a_list : List (Int)) : Option (List (Int)) :=
  ((loopO (S := (List (Int) × Int)) (X := List (Int)) (m_code_put_L1 a_list) (a_b, (0 : Int))).bind (fun x7 => ((some x7))))
theorem ok_code_put (a_b : List (Int)) (a_list : List (Int)) (r : List (Int)) (h : m_code_put a_b a_list = some r) : Spec Tryz.prog 19 [(AV.list 1 eU8 (0 : Int) a_b (.own 32000)), (AV.list 1 eI64 (0 : Int) a_list .none)] [(32000, .tok 1 5 a_b.length)] (AV.list 1 eU8 (0 : Int) r (.own 32000)) [(32000, .tok 1 5 r.length)] := by
  refine spec_of_awp (fn := Tryz.f19) Tryz.func19 rfl rfl (by kernel_rfl) (fun Γ hn hΓ => ?_)
  have hn : Γ.n = 20 := hn
  unfold m_code_put at h
  refine rgs [] [(4, (AV.list 1 eU8 (0 : Int) ([] : List Int) .exact))] (⟨[(0, (AV.list 1 eU8 (0 : Int) a_b (.own 32000))), (1, (Q185 a_list))], [(32000, .tok 1 5 a_b.length)]⟩ : St) [(AVle (.slice 0 0 (fun _ => []) .exact) (AV.list 1 eU8 (0 : Int) ([] : List Int) .exact))] hn mix (hand_in hΓ rfl) (by kernel_rfl) ⟨av_nil, trivial⟩ ?_
  refine awp_seq ?_
  refine rgs0 (⟨[(0, (AV.list 1 eU8 (0 : Int) a_b (.own 32000))), (7, (Q185 a_list)), (8, (Q186 a_list)), (9, (.int .i64 (0 : Int)))], [(32000, .tok 1 5 a_b.length)]⟩ : St) hn mix (hand_in hΓ rfl) (by kernel_rfl) ?_
  refine awp_block ?_
  refine awp_le (st' := (fun ((l1, i2) : (List (Int) × Int)) => (⟨[(0, (AV.list 1 eU8 (0 : Int) l1 (.own 32000))), (7, (Q185 a_list)), (8, (Q186 a_list)), (9, (.int .i64 i2))], [(32000, .tok 1 5 l1.length)]⟩ : St)) (a_b, (0 : Int))) (Le.refl _ _) ?_
  obtain ⟨x7, hx7, h⟩ := bind_some h
  refine awp_loop (fun ((l1, i2) : (List (Int) × Int)) => (⟨[(0, (AV.list 1 eU8 (0 : Int) l1 (.own 32000))), (7, (Q185 a_list)), (8, (Q186 a_list)), (9, (.int .i64 i2))], [(32000, .tok 1 5 l1.length)]⟩ : St)) _ (fun (l3 : List (Int)) (e : Exit) (st : St) => e = (.exit 0) ∧ Le Γ st (⟨[(0, (AV.list 1 eU8 (0 : Int) l3 (.own 32000)))], [(32000, .tok 1 5 l3.length)]⟩ : St)) ?_ hx7 ?_
  · rintro ⟨l1, i2⟩ y h
    unfold m_code_put_L1 at h
    refine rgs0 (⟨[(0, (AV.list 1 eU8 (0 : Int) l1 (.own 32000))), (7, (Q185 a_list)), (8, (Q186 a_list)), (9, (.int .i64 i2)), (10, (.bool (decide ((i2 : Int) < (a_list.length : Int)))))], [(32000, .tok 1 5 l1.length)]⟩ : St) hn mix (hand_in hΓ rfl) (by kernel_rfl) ?_
    refine awp_seq ?_
    refine awp_cond (decide ((i2 : Int) < (a_list.length : Int))) (by kernel_rfl) (fun hb => ?_) (fun hb => ?_)
    · replace h := cond_t hb h
      clear hb
      refine awp_skip ?_
      refine then_normal ?_
      refine awp_seq ?_
      refine awp_block ?_
      obtain ⟨hc4, h⟩ := chk_some h
      refine rgs [] [] (⟨[(0, (AV.list 1 eU8 (0 : Int) l1 (.own 32000))), (6, (.int .i64 (a_list.getD (i2).toNat (0 : Int)))), (7, (Q185 a_list)), (8, (Q186 a_list)), (9, (.int .i64 i2))], [(32000, .tok 1 5 l1.length)]⟩ : St) [(InB i2 a_list.length)] hn mix (hand_in hΓ rfl) (by kernel_rfl) ⟨hc4, trivial⟩ ?_
      obtain ⟨x5, hx5, h⟩ := bind_some h
      obtain ⟨hc6, h⟩ := chk_some h
      refine rg [⟨[], [(20000, 16)], (AV.list 1 eU8 (0 : Int) x5 (.own 20000)), [(20000, .tok 1 5 x5.length)]⟩] [(17, (AV.list 1 eU8 (0 : Int) (l1 ++ x5) (.own 32000)))] (⟨[(0, (AV.list 1 eU8 (0 : Int) (l1 ++ x5) (.own 32000))), (7, (Q185 a_list)), (8, (Q186 a_list)), (9, (.int .i64 i2))], [(32000, .tok 1 5 ((l1 ++ x5).length))]⟩ : St) [(Spec Tryz.prog 39 [(.int .u64 (wu64 (a_list.getD (i2).toNat (0 : Int))))] [] (AV.list 1 eU8 (0 : Int) x5 (.own 20000)) [(20000, .tok 1 5 x5.length)]), (l1.length = l1.length), (l1.length + x5.length ≤ room), (AVle (.slice 1 (l1.length + x5.length) (appF l1.length (fun i => eU8 (l1.getD i (0 : Int))) (fun i => eU8 (x5.getD i (0 : Int)))) (.own 32000)) (AV.list 1 eU8 (0 : Int) (l1 ++ x5) (.own 32000))), (l1.length + x5.length = (l1 ++ x5).length)] hn mix (hand_in hΓ rfl) (by kernel_rfl) ⟨(ok_num_Put (wu64 (a_list.getD (i2).toNat (0 : Int))) x5 hx5), rfl, hc6, av_app, (len_app _ _), trivial⟩ ?_
      refine block_normal ?_
      refine then_normal ?_
      refine rg0 (⟨[(0, (AV.list 1 eU8 (0 : Int) (l1 ++ x5) (.own 32000))), (7, (Q185 a_list)), (8, (Q186 a_list)), (9, (.int .i64 (w64 (i2 + (1 : Int)))))], [(32000, .tok 1 5 ((l1 ++ x5).length))]⟩ : St) hn mix (hand_in hΓ rfl) (by kernel_rfl) ?_
      obtain rfl := Option.some.inj h
      exact ⟨rfl, Le.refl _ _⟩
    · replace h := cond_f hb h
      clear hb
      refine awp_exit ?_
      refine then_exit ?_
      obtain rfl := Option.some.inj h
      exact ⟨(by intro hh; cases hh), rfl, le_restrict_eq [0] [32000] (by kernel_rfl) (hand_in hΓ rfl)⟩
  · clear hx7
    rintro e st' ⟨rfl, hl8⟩
    refine block_here ?_
    refine then_normal ?_
    refine awp_le hl8 ?_
    refine rgs0 (⟨[(4, (AV.list 1 eU8 (0 : Int) x7 (.own 32000)))], [(32000, .tok 1 5 x7.length)]⟩ : St) hn mix (hand_in hΓ rfl) (by kernel_rfl) ?_
    refine awp_ret ?_
    obtain rfl := Option.some.inj h
    exact ⟨.inl rfl, [(32000, 32000)], by kernel_rfl⟩

noncomputable def Q187 (a_p : TPhi) : List AV := [(.int .i64 a_p.Bits), (.int .i64 a_p.Dst), (AV.list 1 eI64 (0 : Int) a_p.From .none), (AV.list 1 eI64 (0 : Int) a_p.Args .none)]
noncomputable def m_code_putPhi (a_b : List (Int)) (a_p : TPhi) : Option (List (Int)) :=
  ((m_code_put a_b ([a_p.Bits, a_p.Dst] : List (Int))).bind fun x1 => ((m_num_Row a_p.From).bind fun x2 => (chk (x1.length + x2.length ≤ room) ((m_num_Row a_p.Args).bind fun x4 => (chk ((x1 ++ x2).length + x4.length ≤ room) (some ((x1 ++ x2) ++ x4)))))))
theorem ok_code_putPhi (a_b : List (Int)) (a_p : TPhi) (r : List (Int)) (h : m_code_putPhi a_b a_p = some r) : Spec Tryz.prog 21 [(AV.list 1 eU8 (0 : Int) a_b (.own 32000)), (.agg (eTPhi a_p))] [(32000, .tok 1 5 a_b.length)] (AV.list 1 eU8 (0 : Int) r (.own 32000)) [(32000, .tok 1 5 r.length)] := by
  refine spec_of_awp (fn := Tryz.f21) Tryz.func21 rfl rfl (by kernel_rfl) (fun Γ hn hΓ => ?_)
  have hn : Γ.n = 22 := hn
  unfold m_code_putPhi at h
  refine rgs [] [(4, (AV.list 1 eU8 (0 : Int) ([] : List Int) .exact))] (⟨[(0, (AV.list 1 eU8 (0 : Int) a_b (.own 32000))), (3, (.ptr 3 0))], [(3, .row 49 (Q187 a_p)), (32000, .tok 1 5 a_b.length)]⟩ : St) [(AVle (.slice 0 0 (fun _ => []) .exact) (AV.list 1 eU8 (0 : Int) ([] : List Int) .exact))] hn mix (hand_in hΓ rfl) (by kernel_rfl) ⟨av_nil, trivial⟩ ?_
  obtain ⟨x1, hx1, h⟩ := bind_some h
  refine rgs [⟨[(32000, 32000)], [], (AV.list 1 eU8 (0 : Int) x1 (.own 32000)), [(32000, .tok 1 5 x1.length)]⟩] [(10, (AV.list 1 eI64 (0 : Int) ([a_p.Bits, a_p.Dst] : List (Int)) .exact))] (⟨[(0, (AV.list 1 eU8 (0 : Int) x1 (.own 32000))), (3, (.ptr 3 0))], [(3, .row 49 (Q187 a_p)), (32000, .tok 1 5 x1.length)]⟩ : St) [(AVle (.slice 1 2 (fun i => ([[(.int .i64 a_p.Bits)], [(.int .i64 a_p.Dst)]] : List (List AV)).getD i []) .exact) (AV.list 1 eI64 (0 : Int) ([a_p.Bits, a_p.Dst] : List (Int)) .exact)), (Spec Tryz.prog 19 [(AV.list 1 eU8 (0 : Int) a_b (.own 32000)), (AV.list 1 eI64 (0 : Int) ([a_p.Bits, a_p.Dst] : List (Int)) .none)] [(32000, .tok 1 5 a_b.length)] (AV.list 1 eU8 (0 : Int) x1 (.own 32000)) [(32000, .tok 1 5 x1.length)])] hn mix (hand_in hΓ rfl) (by kernel_rfl) ⟨(av_lit rfl (fun i hi => map_get (e := eI64) (d := (0 : Int)) ([a_p.Bits, a_p.Dst] : List (Int)) i hi)), (ok_code_put a_b ([a_p.Bits, a_p.Dst] : List (Int)) x1 hx1), trivial⟩ ?_
  obtain ⟨x2, hx2, h⟩ := bind_some h
  obtain ⟨hc3, h⟩ := chk_some h
  refine rgs [⟨[], [(20000, 15)], (AV.list 1 eU8 (0 : Int) x2 (.own 20000)), [(20000, .tok 1 5 x2.length)]⟩] [(16, (AV.list 1 eU8 (0 : Int) (x1 ++ x2) (.own 32000)))] (⟨[(0, (AV.list 1 eU8 (0 : Int) (x1 ++ x2) (.own 32000))), (3, (.ptr 3 0))], [(3, .row 49 (Q187 a_p)), (32000, .tok 1 5 ((x1 ++ x2).length))]⟩ : St) [(Spec Tryz.prog 20 [(AV.list 1 eI64 (0 : Int) a_p.From .none)] [] (AV.list 1 eU8 (0 : Int) x2 (.own 20000)) [(20000, .tok 1 5 x2.length)]), (x1.length = x1.length), (x1.length + x2.length ≤ room), (AVle (.slice 1 (x1.length + x2.length) (appF x1.length (fun i => eU8 (x1.getD i (0 : Int))) (fun i => eU8 (x2.getD i (0 : Int)))) (.own 32000)) (AV.list 1 eU8 (0 : Int) (x1 ++ x2) (.own 32000))), (x1.length + x2.length = (x1 ++ x2).length)] hn mix (hand_in hΓ rfl) (by kernel_rfl) ⟨(ok_num_Row a_p.From x2 hx2), rfl, hc3, av_app, (len_app _ _), trivial⟩ ?_
  obtain ⟨x4, hx4, h⟩ := bind_some h
  obtain ⟨hc5, h⟩ := chk_some h
  refine rgs [⟨[], [(20000, 20)], (AV.list 1 eU8 (0 : Int) x4 (.own 20000)), [(20000, .tok 1 5 x4.length)]⟩] [(21, (AV.list 1 eU8 (0 : Int) ((x1 ++ x2) ++ x4) (.own 32000)))] (⟨[(4, (AV.list 1 eU8 (0 : Int) ((x1 ++ x2) ++ x4) (.own 32000)))], [(32000, .tok 1 5 (((x1 ++ x2) ++ x4).length))]⟩ : St) [(Spec Tryz.prog 20 [(AV.list 1 eI64 (0 : Int) a_p.Args .none)] [] (AV.list 1 eU8 (0 : Int) x4 (.own 20000)) [(20000, .tok 1 5 x4.length)]), ((x1 ++ x2).length = (x1 ++ x2).length), ((x1 ++ x2).length + x4.length ≤ room), (AVle (.slice 1 ((x1 ++ x2).length + x4.length) (appF (x1 ++ x2).length (fun i => eU8 ((x1 ++ x2).getD i (0 : Int))) (fun i => eU8 (x4.getD i (0 : Int)))) (.own 32000)) (AV.list 1 eU8 (0 : Int) ((x1 ++ x2) ++ x4) (.own 32000))), ((x1 ++ x2).length + x4.length = ((x1 ++ x2) ++ x4).length)] hn mix (hand_in hΓ rfl) (by kernel_rfl) ⟨(ok_num_Row a_p.Args x4 hx4), rfl, hc5, av_app, (len_app _ _), trivial⟩ ?_
  refine awp_ret ?_
  obtain rfl := Option.some.inj h
  exact ⟨.inl rfl, [(32000, 32000)], by kernel_rfl⟩

noncomputable def Q189 (a_o : TOp) := ([a_o.Kind, a_o.Bits, a_o.Lanes, a_o.Dst] : List (Int))
noncomputable def Q188 (a_o : TOp) : List AV := [(.int .i64 a_o.Kind), (.int .i64 a_o.Bits), (.int .i64 a_o.Lanes), (.int .i64 a_o.Dst), (AV.list 1 eI64 (0 : Int) a_o.Args .none), (.int .u64 a_o.Imm)]
noncomputable def m_code_putOp (a_b : List (Int)) (a_o : TOp) : Option (List (Int)) :=
  ((m_code_put a_b ([a_o.Kind, a_o.Bits, a_o.Lanes, a_o.Dst] : List (Int))).bind fun x1 => ((m_num_Row a_o.Args).bind fun x2 => (chk (x1.length + x2.length ≤ room) ((m_num_Put a_o.Imm).bind fun x4 => (chk ((x1 ++ x2).length + x4.length ≤ room) (some ((x1 ++ x2) ++ x4)))))))
theorem ok_code_putOp (a_b : List (Int)) (a_o : TOp) (r : List (Int)) (h : m_code_putOp a_b a_o = some r) : Spec Tryz.prog 22 [(AV.list 1 eU8 (0 : Int) a_b (.own 32000)), (.agg (eTOp a_o))] [(32000, .tok 1 5 a_b.length)] (AV.list 1 eU8 (0 : Int) r (.own 32000)) [(32000, .tok 1 5 r.length)] := by
  refine spec_of_awp (fn := Tryz.f22) Tryz.func22 rfl rfl (by kernel_rfl) (fun Γ hn hΓ => ?_)
  have hn : Γ.n = 26 := hn
  unfold m_code_putOp at h
  refine rgs [] [(4, (AV.list 1 eU8 (0 : Int) ([] : List Int) .exact))] (⟨[(0, (AV.list 1 eU8 (0 : Int) a_b (.own 32000))), (3, (.ptr 3 0))], [(3, .row 41 (Q188 a_o)), (32000, .tok 1 5 a_b.length)]⟩ : St) [(AVle (.slice 0 0 (fun _ => []) .exact) (AV.list 1 eU8 (0 : Int) ([] : List Int) .exact))] hn mix (hand_in hΓ rfl) (by kernel_rfl) ⟨av_nil, trivial⟩ ?_
  obtain ⟨x1, hx1, h⟩ := bind_some h
  refine rgs [⟨[(32000, 32000)], [], (AV.list 1 eU8 (0 : Int) x1 (.own 32000)), [(32000, .tok 1 5 x1.length)]⟩] [(14, (AV.list 1 eI64 (0 : Int) (Q189 a_o) .exact))] (⟨[(0, (AV.list 1 eU8 (0 : Int) x1 (.own 32000))), (3, (.ptr 3 0))], [(3, .row 41 (Q188 a_o)), (32000, .tok 1 5 x1.length)]⟩ : St) [(AVle (.slice 1 4 (fun i => ([[(.int .i64 a_o.Kind)], [(.int .i64 a_o.Bits)], [(.int .i64 a_o.Lanes)], [(.int .i64 a_o.Dst)]] : List (List AV)).getD i []) .exact) (AV.list 1 eI64 (0 : Int) (Q189 a_o) .exact)), (Spec Tryz.prog 19 [(AV.list 1 eU8 (0 : Int) a_b (.own 32000)), (AV.list 1 eI64 (0 : Int) (Q189 a_o) .none)] [(32000, .tok 1 5 a_b.length)] (AV.list 1 eU8 (0 : Int) x1 (.own 32000)) [(32000, .tok 1 5 x1.length)])] hn mix (hand_in hΓ rfl) (by kernel_rfl) ⟨(av_lit rfl (fun i hi => map_get (e := eI64) (d := (0 : Int)) (Q189 a_o) i hi)), (ok_code_put a_b (Q189 a_o) x1 hx1), trivial⟩ ?_
  obtain ⟨x2, hx2, h⟩ := bind_some h
  obtain ⟨hc3, h⟩ := chk_some h
  refine rgs [⟨[], [(20000, 19)], (AV.list 1 eU8 (0 : Int) x2 (.own 20000)), [(20000, .tok 1 5 x2.length)]⟩] [(20, (AV.list 1 eU8 (0 : Int) (x1 ++ x2) (.own 32000)))] (⟨[(0, (AV.list 1 eU8 (0 : Int) (x1 ++ x2) (.own 32000))), (3, (.ptr 3 0))], [(3, .row 41 (Q188 a_o)), (32000, .tok 1 5 ((x1 ++ x2).length))]⟩ : St) [(Spec Tryz.prog 20 [(AV.list 1 eI64 (0 : Int) a_o.Args .none)] [] (AV.list 1 eU8 (0 : Int) x2 (.own 20000)) [(20000, .tok 1 5 x2.length)]), (x1.length = x1.length), (x1.length + x2.length ≤ room), (AVle (.slice 1 (x1.length + x2.length) (appF x1.length (fun i => eU8 (x1.getD i (0 : Int))) (fun i => eU8 (x2.getD i (0 : Int)))) (.own 32000)) (AV.list 1 eU8 (0 : Int) (x1 ++ x2) (.own 32000))), (x1.length + x2.length = (x1 ++ x2).length)] hn mix (hand_in hΓ rfl) (by kernel_rfl) ⟨(ok_num_Row a_o.Args x2 hx2), rfl, hc3, av_app, (len_app _ _), trivial⟩ ?_
  obtain ⟨x4, hx4, h⟩ := bind_some h
  obtain ⟨hc5, h⟩ := chk_some h
  refine rgs [⟨[], [(20000, 24)], (AV.list 1 eU8 (0 : Int) x4 (.own 20000)), [(20000, .tok 1 5 x4.length)]⟩] [(25, (AV.list 1 eU8 (0 : Int) ((x1 ++ x2) ++ x4) (.own 32000)))] (⟨[(4, (AV.list 1 eU8 (0 : Int) ((x1 ++ x2) ++ x4) (.own 32000)))], [(32000, .tok 1 5 (((x1 ++ x2) ++ x4).length))]⟩ : St) [(Spec Tryz.prog 39 [(.int .u64 a_o.Imm)] [] (AV.list 1 eU8 (0 : Int) x4 (.own 20000)) [(20000, .tok 1 5 x4.length)]), ((x1 ++ x2).length = (x1 ++ x2).length), ((x1 ++ x2).length + x4.length ≤ room), (AVle (.slice 1 ((x1 ++ x2).length + x4.length) (appF (x1 ++ x2).length (fun i => eU8 ((x1 ++ x2).getD i (0 : Int))) (fun i => eU8 (x4.getD i (0 : Int)))) (.own 32000)) (AV.list 1 eU8 (0 : Int) ((x1 ++ x2) ++ x4) (.own 32000))), ((x1 ++ x2).length + x4.length = ((x1 ++ x2) ++ x4).length)] hn mix (hand_in hΓ rfl) (by kernel_rfl) ⟨(ok_num_Put a_o.Imm x4 hx4), rfl, hc5, av_app, (len_app _ _), trivial⟩ ?_
  refine awp_ret ?_
  obtain rfl := Option.some.inj h
  exact ⟨.inl rfl, [(32000, 32000)], by kernel_rfl⟩

noncomputable def m_code_putEnd (a_b : List (Int)) (a_e : TEnd) : Option (List (Int)) :=
  ((m_code_put a_b ([a_e.Kind, a_e.Arg] : List (Int))).bind fun x1 => ((m_num_Row a_e.To).bind fun x2 => (chk (x1.length + x2.length ≤ room) (some (x1 ++ x2)))))
theorem ok_code_putEnd (a_b : List (Int)) (a_e : TEnd) (r : List (Int)) (h : m_code_putEnd a_b a_e = some r) : Spec Tryz.prog 23 [(AV.list 1 eU8 (0 : Int) a_b (.own 32000)), (.agg (eTEnd a_e))] [(32000, .tok 1 5 a_b.length)] (AV.list 1 eU8 (0 : Int) r (.own 32000)) [(32000, .tok 1 5 r.length)] := by
  refine spec_of_awp (fn := Tryz.f23) Tryz.func23 rfl rfl (by kernel_rfl) (fun Γ hn hΓ => ?_)
  have hn : Γ.n = 17 := hn
  unfold m_code_putEnd at h
  refine rgs [] [(4, (AV.list 1 eU8 (0 : Int) ([] : List Int) .exact))] (⟨[(0, (AV.list 1 eU8 (0 : Int) a_b (.own 32000))), (3, (.ptr 3 0))], [(3, .row 45 [(.int .i64 a_e.Kind), (.int .i64 a_e.Arg), (AV.list 1 eI64 (0 : Int) a_e.To .none)]), (32000, .tok 1 5 a_b.length)]⟩ : St) [(AVle (.slice 0 0 (fun _ => []) .exact) (AV.list 1 eU8 (0 : Int) ([] : List Int) .exact))] hn mix (hand_in hΓ rfl) (by kernel_rfl) ⟨av_nil, trivial⟩ ?_
  obtain ⟨x1, hx1, h⟩ := bind_some h
  refine rgs [⟨[(32000, 32000)], [], (AV.list 1 eU8 (0 : Int) x1 (.own 32000)), [(32000, .tok 1 5 x1.length)]⟩] [(10, (AV.list 1 eI64 (0 : Int) ([a_e.Kind, a_e.Arg] : List (Int)) .exact))] (⟨[(0, (AV.list 1 eU8 (0 : Int) x1 (.own 32000))), (3, (.ptr 3 0))], [(3, .row 45 [(.int .i64 a_e.Kind), (.int .i64 a_e.Arg), (AV.list 1 eI64 (0 : Int) a_e.To .none)]), (32000, .tok 1 5 x1.length)]⟩ : St) [(AVle (.slice 1 2 (fun i => ([[(.int .i64 a_e.Kind)], [(.int .i64 a_e.Arg)]] : List (List AV)).getD i []) .exact) (AV.list 1 eI64 (0 : Int) ([a_e.Kind, a_e.Arg] : List (Int)) .exact)), (Spec Tryz.prog 19 [(AV.list 1 eU8 (0 : Int) a_b (.own 32000)), (AV.list 1 eI64 (0 : Int) ([a_e.Kind, a_e.Arg] : List (Int)) .none)] [(32000, .tok 1 5 a_b.length)] (AV.list 1 eU8 (0 : Int) x1 (.own 32000)) [(32000, .tok 1 5 x1.length)])] hn mix (hand_in hΓ rfl) (by kernel_rfl) ⟨(av_lit rfl (fun i hi => map_get (e := eI64) (d := (0 : Int)) ([a_e.Kind, a_e.Arg] : List (Int)) i hi)), (ok_code_put a_b ([a_e.Kind, a_e.Arg] : List (Int)) x1 hx1), trivial⟩ ?_
  obtain ⟨x2, hx2, h⟩ := bind_some h
  obtain ⟨hc3, h⟩ := chk_some h
  refine rgs [⟨[], [(20000, 15)], (AV.list 1 eU8 (0 : Int) x2 (.own 20000)), [(20000, .tok 1 5 x2.length)]⟩] [(16, (AV.list 1 eU8 (0 : Int) (x1 ++ x2) (.own 32000)))] (⟨[(4, (AV.list 1 eU8 (0 : Int) (x1 ++ x2) (.own 32000)))], [(32000, .tok 1 5 ((x1 ++ x2).length))]⟩ : St) [(Spec Tryz.prog 20 [(AV.list 1 eI64 (0 : Int) a_e.To .none)] [] (AV.list 1 eU8 (0 : Int) x2 (.own 20000)) [(20000, .tok 1 5 x2.length)]), (x1.length = x1.length), (x1.length + x2.length ≤ room), (AVle (.slice 1 (x1.length + x2.length) (appF x1.length (fun i => eU8 (x1.getD i (0 : Int))) (fun i => eU8 (x2.getD i (0 : Int)))) (.own 32000)) (AV.list 1 eU8 (0 : Int) (x1 ++ x2) (.own 32000))), (x1.length + x2.length = (x1 ++ x2).length)] hn mix (hand_in hΓ rfl) (by kernel_rfl) ⟨(ok_num_Row a_e.To x2 hx2), rfl, hc3, av_app, (len_app _ _), trivial⟩ ?_
  refine awp_ret ?_
  obtain rfl := Option.some.inj h
  exact ⟨.inl rfl, [(32000, 32000)], by kernel_rfl⟩

noncomputable def m_code_Encode_L1 (a_f : TFunc) (i5 : Int) : (List (Int) × Int) → Option (LR (List (Int) × Int) (List (Int))) :=
  fun ((l9, i10) : (List (Int) × Int)) => (bif (decide ((i10 : Int) < (((a_f.Blocks.getD (i5).toNat (default : TBlock)).Phis).length : Int))) then (chk (InB i10 ((a_f.Blocks.getD (i5).toNat (default : TBlock)).Phis).length) ((m_code_putPhi l9 (((a_f.Blocks.getD (i5).toNat (default : TBlock)).Phis).getD (i10).toNat (default : TPhi))).bind fun x13 => (some (.next (x13, (w64 (i10 + (1 : Int)))))))) else (some (.done l9)))
noncomputable def m_code_Encode_L2 (a_f : TFunc) (i5 : Int) : (List (Int) × Int) → Option (LR (List (Int) × Int) (List (Int))) :=
  fun ((l17, i18) : (List (Int) × Int)) => (bif (decide ((i18 : Int) < (((a_f.Blocks.getD (i5).toNat (default : TBlock)).Ops).length : Int))) then (chk (InB i18 ((a_f.Blocks.getD (i5).toNat (default : TBlock)).Ops).length) ((m_code_putOp l17 (((a_f.Blocks.getD (i5).toNat (default : TBlock)).Ops).getD (i18).toNat (default : TOp))).bind fun x21 => (some (.next (x21, (w64 (i18 + (1 : Int)))))))) else (some (.done l17)))
noncomputable def m_code_Encode_L3 (a_f : TFunc) : (List (Int) × Int) → Option (LR (List (Int) × Int) (List (Int))) :=
  fun ((l4, i5) : (List (Int) × Int)) => (bif (decide ((i5 : Int) < (a_f.Blocks.length : Int))) then (chk (InB i5 a_f.Blocks.length) ((m_code_put l4 ([(((a_f.Blocks.getD (i5).toNat (default : TBlock)).Phis).length : Int)] : List (Int))).bind fun x8 => ((loopO (S := (List (Int) × Int)) (X := List (Int)) (m_code_Encode_L1 a_f i5) (x8, (0 : Int))).bind (fun x14 => (((m_code_put x14 ([(((a_f.Blocks.getD (i5).toNat (default : TBlock)).Ops).length : Int)] : List (Int))).bind fun x16 => ((loopO (S := (List (Int) × Int)) (X := List (Int)) (m_code_Encode_L2 a_f i5) (x16, (0 : Int))).bind (fun x22 => (((m_code_putEnd x22 (⟨(a_f.Blocks.getD (i5).toNat (default : TBlock)).End.Kind, (a_f.Blocks.getD (i5).toNat (default : TBlock)).End.Arg, (a_f.Blocks.getD (i5).toNat (default : TBlock)).End.To⟩ : TEnd)).bind fun x24 => (some (.next (x24, (w64 (i5 + (1 : Int)))))))))))))))) else (some (.done l4)))
noncomputable def Q197 (a_f : TFunc) (i5 : Int) := (a_f.Blocks.getD (i5).toNat (default : TBlock))
noncomputable def Q192 (a_f : TFunc) (i5 : Int) := ((Q197 a_f i5).Ops)
noncomputable def Q199 (a_f : TFunc) (i5 : Int) := ((Q192 a_f i5).length : Int)
noncomputable def Q193 (a_f : TFunc) (i5 : Int) := ((Q197 a_f i5).Phis)
noncomputable def Q200 (a_f : TFunc) (i5 : Int) := ((Q193 a_f i5).length : Int)
noncomputable def Q194 (a_f : TFunc) : AV := (.int .i64 (a_f.Blocks.length : Int))
noncomputable def Q195 : AV := (AV.list 1 eU8 (0 : Int) ([] : List Int) .exact)
noncomputable def Q198 (a_f : TFunc) (i5 : Int) (i18 : Int) := ((Q192 a_f i5).getD (i18).toNat (default : TOp))
noncomputable def Q201 (a_f : TFunc) (i5 : Int) (i10 : Int) := ((Q193 a_f i5).getD (i10).toNat (default : TPhi))
noncomputable def Q196 (a_f : TFunc) := ([a_f.Ret, (a_f.Blocks.length : Int)] : List (Int))
noncomputable def Q191 (a_f : TFunc) : AV := (AV.list 5 eTBlock (default : TBlock) a_f.Blocks .none)
noncomputable def Q206 (a_f : TFunc) (i5 : Int) : AV := (AV.list 6 eTOp (default : TOp) (Q197 a_f i5).Ops .none)
noncomputable def Q203 (a_f : TFunc) (i5 : Int) : AV := (AV.list 4 eTPhi (default : TPhi) (Q197 a_f i5).Phis .none)
noncomputable def Q202 (a_f : TFunc) : List AV := [(AV.list 1 eI64 (0 : Int) a_f.Params .none), (.int .i64 a_f.Ret), (Q191 a_f)]
noncomputable def Q190 (a_f : TFunc) (i5 : Int) : List AV := [(Q203 a_f i5), (Q206 a_f i5), (.int .i64 (Q197 a_f i5).End.Kind), (.int .i64 (Q197 a_f i5).End.Arg), (AV.list 1 eI64 (0 : Int) (Q197 a_f i5).End.To .none)]
noncomputable def Q205 (l9 : List (Int)) (a_f : TFunc) (i5 : Int) (i10 : Int) := (⟨[(3, (AV.list 1 eU8 (0 : Int) l9 (.own 15))), (5, (.ptr 5 0)), (24, (Q191 a_f)), (25, (Q194 a_f)), (26, (.int .i64 i5)), (37, (Q203 a_f i5)), (38, (.int .i64 (Q200 a_f i5))), (39, (.int .i64 i10))], [(5, .row 47 (Q190 a_f i5)), (15, .tok 1 5 l9.length)]⟩ : St)
noncomputable def Q204 (l17 : List (Int)) (a_f : TFunc) (i5 : Int) (i18 : Int) := (⟨[(3, (AV.list 1 eU8 (0 : Int) l17 (.own 15))), (5, (.ptr 5 0)), (24, (Q191 a_f)), (25, (Q194 a_f)), (26, (.int .i64 i5)), (54, (Q206 a_f i5)), (55, (.int .i64 (Q199 a_f i5))), (56, (.int .i64 i18))], [(5, .row 47 (Q190 a_f i5)), (15, .tok 1 5 l17.length)]⟩ : St)
noncomputable def m_code_Encode (a_f : TFunc) : Option (List (Int)) :=
  ((m_code_May a_f).bind fun x1 => (bif (!x1) then (some ([] : List Int)) else ((m_num_Row a_f.Params).bind fun x2 => ((m_code_put x2 ([a_f.Ret, (a_f.Blocks.length : Int)] : List (Int))).bind fun x3 => ((loopO (S := (List (Int) × Int)) (X := List (Int)) (m_code_Encode_L3 a_f) (x3, (0 : Int))).bind (fun x25 => ((some x25))))))))
theorem ok_code_Encode (a_f : TFunc) (r : List (Int)) (h : m_code_Encode a_f = some r) : Spec Tryz.prog 7 [(.agg (eTFunc a_f))] [] (AV.list 1 eU8 (0 : Int) r (.own 20000)) [(20000, .tok 1 5 r.length)] := by
  refine spec_of_awp (fn := Tryz.f7) Tryz.func7 rfl rfl (by kernel_rfl) (fun Γ hn hΓ => ?_)
  have hn : Γ.n = 70 := hn
  unfold m_code_Encode at h
  refine rgs [] [(2, Q195)] (⟨[(1, (.ptr 1 0))], [(1, .row 25 (Q202 a_f))]⟩ : St) [(AVle (.slice 0 0 (fun _ => []) .exact) Q195)] hn mix (no_hand hΓ) (by kernel_rfl) ⟨av_nil, trivial⟩ ?_
  refine awp_seq ?_
  obtain ⟨x1, hx1, h⟩ := bind_some h
  refine rgs [⟨[], [], (.bool x1), []⟩] [] (⟨[(1, (.ptr 1 0)), (12, (.bool (!x1)))], [(1, .row 25 (Q202 a_f))]⟩ : St) [(Spec Tryz.prog 12 [(.agg (eTFunc a_f))] [] (.bool x1) [])] hn mix (no_hand hΓ) (by kernel_rfl) ⟨(ok_code_May a_f x1 hx1), trivial⟩ ?_
  refine awp_cond (!x1) (by kernel_rfl) (fun hb => ?_) (fun hb => ?_)
  · replace h := cond_t hb h
    clear hb
    refine rgs [] [(2, Q195)] (⟨[(2, Q195)], []⟩ : St) [(AVle (.slice 0 0 (fun _ => []) .exact) Q195)] hn mix (no_hand hΓ) (by kernel_rfl) ⟨av_nil, trivial⟩ ?_
    refine awp_le (st' := (⟨[(2, (AV.list 1 eU8 (0 : Int) ([] : List Int) (.own 6002)))], [(6002, .tok 1 5 (([] : List Int).length))]⟩ : St)) (Le.trans (le_restrict_eq (st' := (⟨[(2, Q195)], []⟩ : St)) [2] [] (by kernel_rfl) (no_hand hΓ)) (Le.trans (le_tag (t := 2) (nm := 6002) (sz' := 1) (fun i => eU8 (([] : List Int).getD i (0 : Int))) 5 rfl rfl (.inl ⟨rfl, rfl⟩) (fun _ => rfl)) (le_restrict_eq (st' := (⟨[(2, (AV.list 1 eU8 (0 : Int) ([] : List Int) (.own 6002)))], [(6002, .tok 1 5 (([] : List Int).length))]⟩ : St)) [2] [6002] (by kernel_rfl) (no_hand hΓ)))) ?_
    refine awp_ret ?_
    refine then_ret ?_
    obtain rfl := Option.some.inj h
    exact ⟨.inl rfl, [(6002, 20000)], by kernel_rfl⟩
  · replace h := cond_f hb h
    clear hb
    refine awp_skip ?_
    refine then_normal ?_
    obtain ⟨x2, hx2, h⟩ := bind_some h
    obtain ⟨x3, hx3, h⟩ := bind_some h
    refine rgs [⟨[], [(20000, 15)], (AV.list 1 eU8 (0 : Int) x2 (.own 20000)), [(20000, .tok 1 5 x2.length)]⟩, ⟨[(15, 32000)], [], (AV.list 1 eU8 (0 : Int) x3 (.own 32000)), [(32000, .tok 1 5 x3.length)]⟩] [(21, (AV.list 1 eI64 (0 : Int) (Q196 a_f) .exact))] (⟨[(1, (.ptr 1 0)), (3, (AV.list 1 eU8 (0 : Int) x3 (.own 15)))], [(1, .row 25 (Q202 a_f)), (15, .tok 1 5 x3.length)]⟩ : St) [(Spec Tryz.prog 20 [(AV.list 1 eI64 (0 : Int) a_f.Params .none)] [] (AV.list 1 eU8 (0 : Int) x2 (.own 20000)) [(20000, .tok 1 5 x2.length)]), (AVle (.slice 1 2 (fun i => ([[(.int .i64 a_f.Ret)], [(Q194 a_f)]] : List (List AV)).getD i []) .exact) (AV.list 1 eI64 (0 : Int) (Q196 a_f) .exact)), (Spec Tryz.prog 19 [(AV.list 1 eU8 (0 : Int) x2 (.own 32000)), (AV.list 1 eI64 (0 : Int) (Q196 a_f) .none)] [(32000, .tok 1 5 x2.length)] (AV.list 1 eU8 (0 : Int) x3 (.own 32000)) [(32000, .tok 1 5 x3.length)])] hn mix (no_hand hΓ) (by kernel_rfl) ⟨(ok_num_Row a_f.Params x2 hx2), (av_lit rfl (fun i hi => map_get (e := eI64) (d := (0 : Int)) (Q196 a_f) i hi)), (ok_code_put x2 (Q196 a_f) x3 hx3), trivial⟩ ?_
    refine awp_seq ?_
    refine rgs0 (⟨[(3, (AV.list 1 eU8 (0 : Int) x3 (.own 15))), (24, (Q191 a_f)), (25, (Q194 a_f)), (26, (.int .i64 (0 : Int)))], [(15, .tok 1 5 x3.length)]⟩ : St) hn mix (no_hand hΓ) (by kernel_rfl) ?_
    refine awp_block ?_
    refine awp_le (st' := (fun ((l4, i5) : (List (Int) × Int)) => (⟨[(3, (AV.list 1 eU8 (0 : Int) l4 (.own 15))), (24, (Q191 a_f)), (25, (Q194 a_f)), (26, (.int .i64 i5))], [(15, .tok 1 5 l4.length)]⟩ : St)) (x3, (0 : Int))) (Le.refl _ _) ?_
    obtain ⟨x25, hx25, h⟩ := bind_some h
    refine awp_loop (fun ((l4, i5) : (List (Int) × Int)) => (⟨[(3, (AV.list 1 eU8 (0 : Int) l4 (.own 15))), (24, (Q191 a_f)), (25, (Q194 a_f)), (26, (.int .i64 i5))], [(15, .tok 1 5 l4.length)]⟩ : St)) _ (fun (l6 : List (Int)) (e : Exit) (st : St) => e = (.exit 0) ∧ Le Γ st (⟨[(3, (AV.list 1 eU8 (0 : Int) l6 (.own 15)))], [(15, .tok 1 5 l6.length)]⟩ : St)) ?_ hx25 ?_
    · rintro ⟨l4, i5⟩ y h
      unfold m_code_Encode_L3 at h
      refine rgs0 (⟨[(3, (AV.list 1 eU8 (0 : Int) l4 (.own 15))), (24, (Q191 a_f)), (25, (Q194 a_f)), (26, (.int .i64 i5)), (27, (.bool (decide ((i5 : Int) < (a_f.Blocks.length : Int)))))], [(15, .tok 1 5 l4.length)]⟩ : St) hn mix (no_hand hΓ) (by kernel_rfl) ?_
      refine awp_seq ?_
      refine awp_cond (decide ((i5 : Int) < (a_f.Blocks.length : Int))) (by kernel_rfl) (fun hb => ?_) (fun hb => ?_)
      · replace h := cond_t hb h
        clear hb
        refine awp_skip ?_
        refine then_normal ?_
        refine awp_seq ?_
        refine awp_block ?_
        obtain ⟨hc7, h⟩ := chk_some h
        refine rgs [] [] (⟨[(3, (AV.list 1 eU8 (0 : Int) l4 (.own 15))), (5, (.ptr 5 0)), (24, (Q191 a_f)), (25, (Q194 a_f)), (26, (.int .i64 i5))], [(5, .row 47 (Q190 a_f i5)), (15, .tok 1 5 l4.length)]⟩ : St) [(InB i5 a_f.Blocks.length)] hn mix (no_hand hΓ) (by kernel_rfl) ⟨hc7, trivial⟩ ?_
        obtain ⟨x8, hx8, h⟩ := bind_some h
        refine rgs [⟨[(15, 32000)], [], (AV.list 1 eU8 (0 : Int) x8 (.own 32000)), [(32000, .tok 1 5 x8.length)]⟩] [(34, (AV.list 1 eI64 (0 : Int) ([(Q200 a_f i5)] : List (Int)) .exact))] (⟨[(3, (AV.list 1 eU8 (0 : Int) x8 (.own 15))), (5, (.ptr 5 0)), (24, (Q191 a_f)), (25, (Q194 a_f)), (26, (.int .i64 i5))], [(5, .row 47 (Q190 a_f i5)), (15, .tok 1 5 x8.length)]⟩ : St) [(AVle (.slice 1 1 (fun i => ([[(.int .i64 (Q200 a_f i5))]] : List (List AV)).getD i []) .exact) (AV.list 1 eI64 (0 : Int) ([(Q200 a_f i5)] : List (Int)) .exact)), (Spec Tryz.prog 19 [(AV.list 1 eU8 (0 : Int) l4 (.own 32000)), (AV.list 1 eI64 (0 : Int) ([(Q200 a_f i5)] : List (Int)) .none)] [(32000, .tok 1 5 l4.length)] (AV.list 1 eU8 (0 : Int) x8 (.own 32000)) [(32000, .tok 1 5 x8.length)])] hn mix (no_hand hΓ) (by kernel_rfl) ⟨(av_lit rfl (fun i hi => map_get (e := eI64) (d := (0 : Int)) ([(Q200 a_f i5)] : List (Int)) i hi)), (ok_code_put l4 ([(Q200 a_f i5)] : List (Int)) x8 hx8), trivial⟩ ?_
        refine awp_seq ?_
        refine rgs0 (⟨[(3, (AV.list 1 eU8 (0 : Int) x8 (.own 15))), (5, (.ptr 5 0)), (24, (Q191 a_f)), (25, (Q194 a_f)), (26, (.int .i64 i5)), (37, (Q203 a_f i5)), (38, (.int .i64 (Q200 a_f i5))), (39, (.int .i64 (0 : Int)))], [(5, .row 47 (Q190 a_f i5)), (15, .tok 1 5 x8.length)]⟩ : St) hn mix (no_hand hΓ) (by kernel_rfl) ?_
        refine awp_block ?_
        refine awp_le (st' := (fun ((l9, i10) : (List (Int) × Int)) => (Q205 l9 a_f i5 i10)) (x8, (0 : Int))) (Le.refl _ _) ?_
        obtain ⟨x14, hx14, h⟩ := bind_some h
        refine awp_loop (fun ((l9, i10) : (List (Int) × Int)) => (Q205 l9 a_f i5 i10)) _ (fun (l11 : List (Int)) (e : Exit) (st : St) => e = (.exit 2) ∧ Le Γ st (⟨[(3, (AV.list 1 eU8 (0 : Int) l11 (.own 15))), (5, (.ptr 5 0)), (24, (Q191 a_f)), (25, (Q194 a_f)), (26, (.int .i64 i5))], [(5, .row 47 (Q190 a_f i5)), (15, .tok 1 5 l11.length)]⟩ : St)) ?_ hx14 ?_
        · rintro ⟨l9, i10⟩ y h
          unfold m_code_Encode_L1 at h
          refine rgs0 (⟨[(3, (AV.list 1 eU8 (0 : Int) l9 (.own 15))), (5, (.ptr 5 0)), (24, (Q191 a_f)), (25, (Q194 a_f)), (26, (.int .i64 i5)), (37, (Q203 a_f i5)), (38, (.int .i64 (Q200 a_f i5))), (39, (.int .i64 i10)), (40, (.bool (decide ((i10 : Int) < (Q200 a_f i5)))))], [(5, .row 47 (Q190 a_f i5)), (15, .tok 1 5 l9.length)]⟩ : St) hn mix (no_hand hΓ) (by kernel_rfl) ?_
          refine awp_seq ?_
          refine awp_cond (decide ((i10 : Int) < (Q200 a_f i5))) (by kernel_rfl) (fun hb => ?_) (fun hb => ?_)
          · replace h := cond_t hb h
            clear hb
            refine awp_skip ?_
            refine then_normal ?_
            refine awp_seq ?_
            refine awp_block ?_
            obtain ⟨hc12, h⟩ := chk_some h
            refine rgs [] [] (⟨[(3, (AV.list 1 eU8 (0 : Int) l9 (.own 15))), (5, (.ptr 5 0)), (7, (.ptr 7 0)), (24, (Q191 a_f)), (25, (Q194 a_f)), (26, (.int .i64 i5)), (37, (Q203 a_f i5)), (38, (.int .i64 (Q200 a_f i5))), (39, (.int .i64 i10))], [(5, .row 47 (Q190 a_f i5)), (7, .row 49 [(.int .i64 (Q201 a_f i5 i10).Bits), (.int .i64 (Q201 a_f i5 i10).Dst), (AV.list 1 eI64 (0 : Int) (Q201 a_f i5 i10).From .none), (AV.list 1 eI64 (0 : Int) (Q201 a_f i5 i10).Args .none)]), (15, .tok 1 5 l9.length)]⟩ : St) [(InB i10 (Q193 a_f i5).length)] hn mix (no_hand hΓ) (by kernel_rfl) ⟨hc12, trivial⟩ ?_
            obtain ⟨x13, hx13, h⟩ := bind_some h
            refine rg [⟨[(15, 32000)], [], (AV.list 1 eU8 (0 : Int) x13 (.own 32000)), [(32000, .tok 1 5 x13.length)]⟩] [] (⟨[(3, (AV.list 1 eU8 (0 : Int) x13 (.own 15))), (5, (.ptr 5 0)), (24, (Q191 a_f)), (25, (Q194 a_f)), (26, (.int .i64 i5)), (37, (Q203 a_f i5)), (38, (.int .i64 (Q200 a_f i5))), (39, (.int .i64 i10))], [(5, .row 47 (Q190 a_f i5)), (15, .tok 1 5 x13.length)]⟩ : St) [(Spec Tryz.prog 21 [(AV.list 1 eU8 (0 : Int) l9 (.own 32000)), (.agg (eTPhi (Q201 a_f i5 i10)))] [(32000, .tok 1 5 l9.length)] (AV.list 1 eU8 (0 : Int) x13 (.own 32000)) [(32000, .tok 1 5 x13.length)])] hn mix (no_hand hΓ) (by kernel_rfl) ⟨(ok_code_putPhi l9 (Q201 a_f i5 i10) x13 hx13), trivial⟩ ?_
            refine block_normal ?_
            refine then_normal ?_
            refine rg0 (⟨[(3, (AV.list 1 eU8 (0 : Int) x13 (.own 15))), (5, (.ptr 5 0)), (24, (Q191 a_f)), (25, (Q194 a_f)), (26, (.int .i64 i5)), (37, (Q203 a_f i5)), (38, (.int .i64 (Q200 a_f i5))), (39, (.int .i64 (w64 (i10 + (1 : Int)))))], [(5, .row 47 (Q190 a_f i5)), (15, .tok 1 5 x13.length)]⟩ : St) hn mix (no_hand hΓ) (by kernel_rfl) ?_
            obtain rfl := Option.some.inj h
            exact ⟨rfl, Le.refl _ _⟩
          · replace h := cond_f hb h
            clear hb
            refine awp_exit ?_
            refine then_exit ?_
            obtain rfl := Option.some.inj h
            exact ⟨(by intro hh; cases hh), rfl, le_restrict_eq [3, 5, 24, 25, 26] [5, 15] (by kernel_rfl) (no_hand hΓ)⟩
        · clear hx14
          rintro e st' ⟨rfl, hl15⟩
          refine block_here ?_
          refine then_normal ?_
          refine awp_le hl15 ?_
          obtain ⟨x16, hx16, h⟩ := bind_some h
          refine rgs [⟨[(15, 32000)], [], (AV.list 1 eU8 (0 : Int) x16 (.own 32000)), [(32000, .tok 1 5 x16.length)]⟩] [(51, (AV.list 1 eI64 (0 : Int) ([(Q199 a_f i5)] : List (Int)) .exact))] (⟨[(3, (AV.list 1 eU8 (0 : Int) x16 (.own 15))), (5, (.ptr 5 0)), (24, (Q191 a_f)), (25, (Q194 a_f)), (26, (.int .i64 i5))], [(5, .row 47 (Q190 a_f i5)), (15, .tok 1 5 x16.length)]⟩ : St) [(AVle (.slice 1 1 (fun i => ([[(.int .i64 (Q199 a_f i5))]] : List (List AV)).getD i []) .exact) (AV.list 1 eI64 (0 : Int) ([(Q199 a_f i5)] : List (Int)) .exact)), (Spec Tryz.prog 19 [(AV.list 1 eU8 (0 : Int) x14 (.own 32000)), (AV.list 1 eI64 (0 : Int) ([(Q199 a_f i5)] : List (Int)) .none)] [(32000, .tok 1 5 x14.length)] (AV.list 1 eU8 (0 : Int) x16 (.own 32000)) [(32000, .tok 1 5 x16.length)])] hn mix (no_hand hΓ) (by kernel_rfl) ⟨(av_lit rfl (fun i hi => map_get (e := eI64) (d := (0 : Int)) ([(Q199 a_f i5)] : List (Int)) i hi)), (ok_code_put x14 ([(Q199 a_f i5)] : List (Int)) x16 hx16), trivial⟩ ?_
          refine awp_seq ?_
          refine rgs0 (⟨[(3, (AV.list 1 eU8 (0 : Int) x16 (.own 15))), (5, (.ptr 5 0)), (24, (Q191 a_f)), (25, (Q194 a_f)), (26, (.int .i64 i5)), (54, (Q206 a_f i5)), (55, (.int .i64 (Q199 a_f i5))), (56, (.int .i64 (0 : Int)))], [(5, .row 47 (Q190 a_f i5)), (15, .tok 1 5 x16.length)]⟩ : St) hn mix (no_hand hΓ) (by kernel_rfl) ?_
          refine awp_block ?_
          refine awp_le (st' := (fun ((l17, i18) : (List (Int) × Int)) => (Q204 l17 a_f i5 i18)) (x16, (0 : Int))) (Le.refl _ _) ?_
          obtain ⟨x22, hx22, h⟩ := bind_some h
          refine awp_loop (fun ((l17, i18) : (List (Int) × Int)) => (Q204 l17 a_f i5 i18)) _ (fun (l19 : List (Int)) (e : Exit) (st : St) => e = (.exit 4) ∧ Le Γ st (⟨[(3, (AV.list 1 eU8 (0 : Int) l19 (.own 15))), (5, (.ptr 5 0)), (24, (Q191 a_f)), (25, (Q194 a_f)), (26, (.int .i64 i5))], [(5, .row 47 (Q190 a_f i5)), (15, .tok 1 5 l19.length)]⟩ : St)) ?_ hx22 ?_
          · rintro ⟨l17, i18⟩ y h
            unfold m_code_Encode_L2 at h
            refine rgs0 (⟨[(3, (AV.list 1 eU8 (0 : Int) l17 (.own 15))), (5, (.ptr 5 0)), (24, (Q191 a_f)), (25, (Q194 a_f)), (26, (.int .i64 i5)), (54, (Q206 a_f i5)), (55, (.int .i64 (Q199 a_f i5))), (56, (.int .i64 i18)), (57, (.bool (decide ((i18 : Int) < (Q199 a_f i5)))))], [(5, .row 47 (Q190 a_f i5)), (15, .tok 1 5 l17.length)]⟩ : St) hn mix (no_hand hΓ) (by kernel_rfl) ?_
            refine awp_seq ?_
            refine awp_cond (decide ((i18 : Int) < (Q199 a_f i5))) (by kernel_rfl) (fun hb => ?_) (fun hb => ?_)
            · replace h := cond_t hb h
              clear hb
              refine awp_skip ?_
              refine then_normal ?_
              refine awp_seq ?_
              refine awp_block ?_
              obtain ⟨hc20, h⟩ := chk_some h
              refine rgs [] [] (⟨[(3, (AV.list 1 eU8 (0 : Int) l17 (.own 15))), (5, (.ptr 5 0)), (9, (.ptr 9 0)), (24, (Q191 a_f)), (25, (Q194 a_f)), (26, (.int .i64 i5)), (54, (Q206 a_f i5)), (55, (.int .i64 (Q199 a_f i5))), (56, (.int .i64 i18))], [(5, .row 47 (Q190 a_f i5)), (9, .row 41 [(.int .i64 (Q198 a_f i5 i18).Kind), (.int .i64 (Q198 a_f i5 i18).Bits), (.int .i64 (Q198 a_f i5 i18).Lanes), (.int .i64 (Q198 a_f i5 i18).Dst), (AV.list 1 eI64 (0 : Int) (Q198 a_f i5 i18).Args .none), (.int .u64 (Q198 a_f i5 i18).Imm)]), (15, .tok 1 5 l17.length)]⟩ : St) [(InB i18 (Q192 a_f i5).length)] hn mix (no_hand hΓ) (by kernel_rfl) ⟨hc20, trivial⟩ ?_
              obtain ⟨x21, hx21, h⟩ := bind_some h
              refine rg [⟨[(15, 32000)], [], (AV.list 1 eU8 (0 : Int) x21 (.own 32000)), [(32000, .tok 1 5 x21.length)]⟩] [] (⟨[(3, (AV.list 1 eU8 (0 : Int) x21 (.own 15))), (5, (.ptr 5 0)), (24, (Q191 a_f)), (25, (Q194 a_f)), (26, (.int .i64 i5)), (54, (Q206 a_f i5)), (55, (.int .i64 (Q199 a_f i5))), (56, (.int .i64 i18))], [(5, .row 47 (Q190 a_f i5)), (15, .tok 1 5 x21.length)]⟩ : St) [(Spec Tryz.prog 22 [(AV.list 1 eU8 (0 : Int) l17 (.own 32000)), (.agg (eTOp (Q198 a_f i5 i18)))] [(32000, .tok 1 5 l17.length)] (AV.list 1 eU8 (0 : Int) x21 (.own 32000)) [(32000, .tok 1 5 x21.length)])] hn mix (no_hand hΓ) (by kernel_rfl) ⟨(ok_code_putOp l17 (Q198 a_f i5 i18) x21 hx21), trivial⟩ ?_
              refine block_normal ?_
              refine then_normal ?_
              refine rg0 (⟨[(3, (AV.list 1 eU8 (0 : Int) x21 (.own 15))), (5, (.ptr 5 0)), (24, (Q191 a_f)), (25, (Q194 a_f)), (26, (.int .i64 i5)), (54, (Q206 a_f i5)), (55, (.int .i64 (Q199 a_f i5))), (56, (.int .i64 (w64 (i18 + (1 : Int)))))], [(5, .row 47 (Q190 a_f i5)), (15, .tok 1 5 x21.length)]⟩ : St) hn mix (no_hand hΓ) (by kernel_rfl) ?_
              obtain rfl := Option.some.inj h
              exact ⟨rfl, Le.refl _ _⟩
            · replace h := cond_f hb h
              clear hb
              refine awp_exit ?_
              refine then_exit ?_
              obtain rfl := Option.some.inj h
              exact ⟨(by intro hh; cases hh), rfl, le_restrict_eq [3, 5, 24, 25, 26] [5, 15] (by kernel_rfl) (no_hand hΓ)⟩
          · clear hx22
            rintro e st' ⟨rfl, hl23⟩
            refine block_here ?_
            refine then_normal ?_
            refine awp_le hl23 ?_
            obtain ⟨x24, hx24, h⟩ := bind_some h
            refine rg [⟨[(15, 32000)], [], (AV.list 1 eU8 (0 : Int) x24 (.own 32000)), [(32000, .tok 1 5 x24.length)]⟩] [] (⟨[(3, (AV.list 1 eU8 (0 : Int) x24 (.own 15))), (24, (Q191 a_f)), (25, (Q194 a_f)), (26, (.int .i64 i5))], [(15, .tok 1 5 x24.length)]⟩ : St) [(Spec Tryz.prog 23 [(AV.list 1 eU8 (0 : Int) x22 (.own 32000)), (.agg [(.int .i64 (Q197 a_f i5).End.Kind), (.int .i64 (Q197 a_f i5).End.Arg), (AV.list 1 eI64 (0 : Int) (Q197 a_f i5).End.To .none)])] [(32000, .tok 1 5 x22.length)] (AV.list 1 eU8 (0 : Int) x24 (.own 32000)) [(32000, .tok 1 5 x24.length)])] hn mix (no_hand hΓ) (by kernel_rfl) ⟨(ok_code_putEnd x22 (⟨(Q197 a_f i5).End.Kind, (Q197 a_f i5).End.Arg, (Q197 a_f i5).End.To⟩ : TEnd) x24 hx24), trivial⟩ ?_
            refine block_normal ?_
            refine then_normal ?_
            refine rg0 (⟨[(3, (AV.list 1 eU8 (0 : Int) x24 (.own 15))), (24, (Q191 a_f)), (25, (Q194 a_f)), (26, (.int .i64 (w64 (i5 + (1 : Int)))))], [(15, .tok 1 5 x24.length)]⟩ : St) hn mix (no_hand hΓ) (by kernel_rfl) ?_
            obtain rfl := Option.some.inj h
            exact ⟨rfl, Le.refl _ _⟩
      · replace h := cond_f hb h
        clear hb
        refine awp_exit ?_
        refine then_exit ?_
        obtain rfl := Option.some.inj h
        exact ⟨(by intro hh; cases hh), rfl, le_restrict_eq [3] [15] (by kernel_rfl) (no_hand hΓ)⟩
    · clear hx25
      rintro e st' ⟨rfl, hl26⟩
      refine block_here ?_
      refine then_normal ?_
      refine awp_le hl26 ?_
      refine rgs0 (⟨[(2, (AV.list 1 eU8 (0 : Int) x25 (.own 15)))], [(15, .tok 1 5 x25.length)]⟩ : St) hn mix (no_hand hΓ) (by kernel_rfl) ?_
      refine awp_ret ?_
      obtain rfl := Option.some.inj h
      exact ⟨.inl rfl, [(15, 20000)], by kernel_rfl⟩

noncomputable def Q208 (a_n : Int) := (((a_n : Int) == (1 : Int)) == false)
noncomputable def Q207 (a_n : Int) (a_last : Int) := ((Q208 a_n) && (((a_last : Int) != (0 : Int)) == true))
noncomputable def m_num_ends (a_n : Int) (a_last : Int) : Option Bool :=
  (some (bif ((a_n : Int) == (1 : Int)) then true else (bif ((a_last : Int) != (0 : Int)) then (bif (decide ((a_n : Int) < (10 : Int))) then true else ((a_last : Int) == (1 : Int))) else false)))
theorem ok_num_ends (a_n : Int) (a_last : Int) (r : Bool) (h : m_num_ends a_n a_last = some r) : Spec Tryz.prog 103 [(.int .i64 a_n), (.int .u8 a_last)] [] (.bool r) [] := by
  refine spec_of_awp (fn := Tryz.f103) Tryz.func103 rfl rfl (by kernel_rfl) (fun Γ hn hΓ => ?_)
  have hn : Γ.n = 19 := hn
  unfold m_num_ends at h
  refine rgs0 (⟨[(0, (.int .i64 a_n)), (1, (.int .u8 a_last))], []⟩ : St) hn mix (no_hand hΓ) (by kernel_rfl) ?_
  refine rgs [] [] (⟨[(4, (.bool (bif ((a_n : Int) == (1 : Int)) then true else (bif ((a_last : Int) != (0 : Int)) then (bif (decide ((a_n : Int) < (10 : Int))) then true else ((a_last : Int) == (1 : Int))) else false))))], []⟩ : St) [((Q208 a_n) = true → (Q208 a_n) = true), ((Q208 a_n) = true → (Q208 a_n) = true), ((Q207 a_n a_last) = true → (Q207 a_n a_last) = true), ((Q207 a_n a_last) = true → (Q207 a_n a_last) = true), (((Q207 a_n a_last) && ((decide ((a_n : Int) < (10 : Int))) == false)) = true → ((Q207 a_n a_last) && ((decide ((a_n : Int) < (10 : Int))) == false)) = true), ((Q207 a_n a_last) = true → (Q207 a_n a_last) = true), ((Q207 a_n a_last) = true → ((decide ((a_n : Int) < (10 : Int))) = false → ((Q207 a_n a_last) && ((decide ((a_n : Int) < (10 : Int))) == false)) = true)), ((Q208 a_n) = true → (Q208 a_n) = true), ((Q208 a_n) = true → (((a_last : Int) != (0 : Int)) = true → (Q207 a_n a_last) = true)), (((a_n : Int) == (1 : Int)) = false → (Q208 a_n) = true)] hn mix (no_hand hΓ) (by kernel_rfl) ⟨(fun hg => hg), (fun hg => hg), (fun hg => hg), (fun hg => hg), (fun hg => hg), (fun hg => hg), (fun hg => (aF hg)), (fun hg => hg), (fun hg => (aT hg)), gF, trivial⟩ ?_
  refine awp_ret ?_
  obtain rfl := Option.some.inj h
  exact ⟨.inl rfl, [], by kernel_rfl⟩

noncomputable def m_num_Get_F1 (a_b : List (Int)) : (Int × Int) → Option (LR (Int × Int) (Int × Int × Int)) :=
  fun (s_ : (Int × Int)) => match s_ with | (i1, i2) => (bif ((i2 : Int) == (10 : Int)) then (some (.done ((0 : Int), (0 : Int), (3 : Int)))) else (bif ((i2 : Int) == (a_b.length : Int)) then (some (.done ((0 : Int), (0 : Int), (2 : Int)))) else (chk (InB i2 a_b.length) (chk (0 ≤ (w64 ((7 : Int) * i2))) (chk (InB (w64 ((w64 (i2 + (1 : Int))) - (1 : Int))) a_b.length) (bif (decide (((128 : Int) : Int) ≤ (a_b.getD ((w64 ((w64 (i2 + (1 : Int))) - (1 : Int)))).toNat (0 : Int)))) then (some (.next ((bitsV .or .u64 i1 (shlV .u64 (wu64 (bitsV .and .u8 (a_b.getD (i2).toNat (0 : Int)) (127 : Int))) (w64 ((7 : Int) * i2)))), (w64 (i2 + (1 : Int)))))) else (chk (InB (w64 ((w64 (i2 + (1 : Int))) - (1 : Int))) a_b.length) ((m_num_ends (w64 (i2 + (1 : Int))) (a_b.getD ((w64 ((w64 (i2 + (1 : Int))) - (1 : Int)))).toNat (0 : Int))).bind fun x12 => (bif (!x12) then (some (.done ((0 : Int), (0 : Int), (3 : Int)))) else (some (.done ((bitsV .or .u64 i1 (shlV .u64 (wu64 (bitsV .and .u8 (a_b.getD (i2).toNat (0 : Int)) (127 : Int))) (w64 ((7 : Int) * i2)))), (w64 (i2 + (1 : Int))), (0 : Int)))))))))))))
noncomputable def Q213 := (w64 ((0 : Int) + (1 : Int)))
noncomputable def Q211 (a_b : List (Int)) : AV := (AV.list 1 eU8 (0 : Int) a_b .none)
noncomputable def Q215 (a_b : List (Int)) := (a_b.getD ((w64 (Q213 - (1 : Int)))).toNat (0 : Int))
noncomputable def Q214 (a_b : List (Int)) (i2 : Int) := (a_b.getD ((w64 ((w64 (i2 + (1 : Int))) - (1 : Int)))).toNat (0 : Int))
noncomputable def Q212 := (⟨[(2, (.int .u64 (0 : Int))), (3, (.int .i64 (0 : Int))), (4, (.int .i64 (3 : Int)))], []⟩ : St)
noncomputable def Q210 (i1 : Int) (a_b : List (Int)) (i2 : Int) : AV := (.int .u64 (bitsV .or .u64 i1 (shlV .u64 (wu64 (bitsV .and .u8 (a_b.getD (i2).toNat (0 : Int)) (127 : Int))) (w64 ((7 : Int) * i2)))))
noncomputable def Q209 (a_b : List (Int)) : AV := (.int .u64 (bitsV .or .u64 (0 : Int) (shlV .u64 (wu64 (bitsV .and .u8 (a_b.getD ((0 : Int)).toNat (0 : Int)) (127 : Int))) (w64 ((7 : Int) * (0 : Int))))))
noncomputable def m_num_Get (a_b : List (Int)) : Option (Int × Int × Int) :=
  ((scopeO (S := (Int × Int)) (X := (Int × Int × Int)) (bif (((0 : Int) : Int) == (10 : Int)) then (some (.done ((0 : Int), (0 : Int), (3 : Int)))) else (bif (((0 : Int) : Int) == (a_b.length : Int)) then (some (.done ((0 : Int), (0 : Int), (2 : Int)))) else (chk (InB (0 : Int) a_b.length) (chk (0 ≤ (w64 ((7 : Int) * (0 : Int)))) (chk (InB (w64 ((w64 ((0 : Int) + (1 : Int))) - (1 : Int))) a_b.length) (bif (decide (((128 : Int) : Int) ≤ (a_b.getD ((w64 ((w64 ((0 : Int) + (1 : Int))) - (1 : Int)))).toNat (0 : Int)))) then (some (.next ((bitsV .or .u64 (0 : Int) (shlV .u64 (wu64 (bitsV .and .u8 (a_b.getD ((0 : Int)).toNat (0 : Int)) (127 : Int))) (w64 ((7 : Int) * (0 : Int))))), (w64 ((0 : Int) + (1 : Int)))))) else (chk (InB (w64 ((w64 ((0 : Int) + (1 : Int))) - (1 : Int))) a_b.length) ((m_num_ends (w64 ((0 : Int) + (1 : Int))) (a_b.getD ((w64 ((w64 ((0 : Int) + (1 : Int))) - (1 : Int)))).toNat (0 : Int))).bind fun x7 => (bif (!x7) then (some (.done ((0 : Int), (0 : Int), (3 : Int)))) else (some (.done ((bitsV .or .u64 (0 : Int) (shlV .u64 (wu64 (bitsV .and .u8 (a_b.getD ((0 : Int)).toNat (0 : Int)) (127 : Int))) (w64 ((7 : Int) * (0 : Int))))), (w64 ((0 : Int) + (1 : Int))), (0 : Int))))))))))))) (m_num_Get_F1 a_b)).bind (fun x13 => ((some x13))))
theorem ok_num_Get (a_b : List (Int)) (r : (Int × Int × Int)) (h : m_num_Get a_b = some r) : Spec Tryz.prog 96 [(AV.list 1 eU8 (0 : Int) a_b .none)] [] (.tuple [(.int .u64 r.1), (.int .i64 r.2.1), (.int .i64 r.2.2)]) [] := by
  refine spec_of_awp (fn := Tryz.f96) Tryz.func96 rfl rfl (by kernel_rfl) (fun Γ hn hΓ => ?_)
  have hn : Γ.n = 42 := hn
  unfold m_num_Get at h
  refine rgs0 (⟨[(0, (Q211 a_b))], []⟩ : St) hn mix (no_hand hΓ) (by kernel_rfl) ?_
  obtain ⟨x13, hx13, h⟩ := bind_some h
  refine awp_scope (S := (Int × Int)) (X := (Int × Int × Int)) (fun (s_ : (Int × Int)) => match s_ with | (i1, i2) => 0) (fun (s_ : (Int × Int)) => match s_ with | (i1, i2) => (⟨[(0, (Q211 a_b)), (5, (.int .u64 i1)), (6, (.int .i64 i2))], []⟩ : St)) _ _ (fun (r_ : (Int × Int × Int)) (e : Exit) (st : St) => e = .ret ∧ retK Tryz.prog Tryz.f96.results.toList [] (.tuple [(.int .u64 r_.1), (.int .i64 r_.2.1), (.int .i64 r_.2.2)]) [] e st) ?_ ?_ hx13 ?_
  · clear h hx13
    intro y h
    refine rgs0 (⟨[(0, (Q211 a_b)), (5, (.int .u64 (0 : Int)))], []⟩ : St) hn mix (no_hand hΓ) (by kernel_rfl) ?_
    refine rgs0 (⟨[(0, (Q211 a_b)), (5, (.int .u64 (0 : Int))), (6, (.int .i64 (0 : Int)))], []⟩ : St) hn mix (no_hand hΓ) (by kernel_rfl) ?_
    refine awp_seq ?_
    refine awp_label ?_
    refine then_normal ?_
    refine awp_seq ?_
    refine rgs0 (⟨[(0, (Q211 a_b)), (5, (.int .u64 (0 : Int))), (6, (.int .i64 (0 : Int))), (8, (.bool (((0 : Int) : Int) == (10 : Int))))], []⟩ : St) hn mix (no_hand hΓ) (by kernel_rfl) ?_
    refine awp_cond (((0 : Int) : Int) == (10 : Int)) (by kernel_rfl) (fun hb => ?_) (fun hb => ?_)
    · replace h := cond_t hb h
      clear hb
      refine rgs0 Q212 hn mix (no_hand hΓ) (by kernel_rfl) ?_
      refine awp_ret ?_
      refine then_ret ?_
      obtain rfl := Option.some.inj h
      exact ⟨(by intro l hh; cases hh), rfl, ⟨.inl rfl, [], by kernel_rfl⟩⟩
    · replace h := cond_f hb h
      clear hb
      refine awp_skip ?_
      refine then_normal ?_
      refine awp_seq ?_
      refine rgs0 (⟨[(0, (Q211 a_b)), (5, (.int .u64 (0 : Int))), (6, (.int .i64 (0 : Int))), (12, (.bool (((0 : Int) : Int) == (a_b.length : Int))))], []⟩ : St) hn mix (no_hand hΓ) (by kernel_rfl) ?_
      refine awp_cond (((0 : Int) : Int) == (a_b.length : Int)) (by kernel_rfl) (fun hb => ?_) (fun hb => ?_)
      · replace h := cond_t hb h
        clear hb
        refine rgs0 (⟨[(2, (.int .u64 (0 : Int))), (3, (.int .i64 (0 : Int))), (4, (.int .i64 (2 : Int)))], []⟩ : St) hn mix (no_hand hΓ) (by kernel_rfl) ?_
        refine awp_ret ?_
        refine then_ret ?_
        obtain rfl := Option.some.inj h
        exact ⟨(by intro l hh; cases hh), rfl, ⟨.inl rfl, [], by kernel_rfl⟩⟩
      · replace h := cond_f hb h
        clear hb
        refine awp_skip ?_
        refine then_normal ?_
        obtain ⟨hc3, h⟩ := chk_some h
        obtain ⟨hc4, h⟩ := chk_some h
        refine rgs [] [] (⟨[(0, (Q211 a_b)), (5, (Q209 a_b)), (6, (.int .i64 (0 : Int)))], []⟩ : St) [(InB (0 : Int) a_b.length), (0 ≤ (w64 ((7 : Int) * (0 : Int))))] hn mix (no_hand hΓ) (by kernel_rfl) ⟨hc3, hc4, trivial⟩ ?_
        refine rgs0 (⟨[(0, (Q211 a_b)), (5, (Q209 a_b)), (6, (.int .i64 Q213))], []⟩ : St) hn mix (no_hand hΓ) (by kernel_rfl) ?_
        refine awp_seq ?_
        obtain ⟨hc5, h⟩ := chk_some h
        refine rgs [] [] (⟨[(0, (Q211 a_b)), (5, (Q209 a_b)), (6, (.int .i64 Q213)), (31, (.bool (decide (((128 : Int) : Int) ≤ (Q215 a_b)))))], []⟩ : St) [(InB (w64 (Q213 - (1 : Int))) a_b.length)] hn mix (no_hand hΓ) (by kernel_rfl) ⟨hc5, trivial⟩ ?_
        refine awp_cond (decide (((128 : Int) : Int) ≤ (Q215 a_b))) (by kernel_rfl) (fun hb => ?_) (fun hb => ?_)
        · replace h := cond_t hb h
          clear hb
          refine awp_goto ?_
          refine then_goto ?_
          obtain rfl := Option.some.inj h
          exact ⟨rfl, rfl, le_restrict_eq [0, 5, 6] [] (by kernel_rfl) (no_hand hΓ)⟩
        · replace h := cond_f hb h
          clear hb
          refine awp_skip ?_
          refine then_normal ?_
          refine awp_seq ?_
          obtain ⟨hc6, h⟩ := chk_some h
          obtain ⟨x7, hx7, h⟩ := bind_some h
          refine rgs [⟨[], [], (.bool x7), []⟩] [] (⟨[(5, (Q209 a_b)), (6, (.int .i64 Q213)), (39, (.bool (!x7)))], []⟩ : St) [(InB (w64 (Q213 - (1 : Int))) a_b.length), (Spec Tryz.prog 103 [(.int .i64 Q213), (.int .u8 (Q215 a_b))] [] (.bool x7) [])] hn mix (no_hand hΓ) (by kernel_rfl) ⟨hc6, (ok_num_ends Q213 (Q215 a_b) x7 hx7), trivial⟩ ?_
          refine awp_cond (!x7) (by kernel_rfl) (fun hb => ?_) (fun hb => ?_)
          · replace h := cond_t hb h
            clear hb
            refine rgs0 Q212 hn mix (no_hand hΓ) (by kernel_rfl) ?_
            refine awp_ret ?_
            refine then_ret ?_
            obtain rfl := Option.some.inj h
            exact ⟨(by intro l hh; cases hh), rfl, ⟨.inl rfl, [], by kernel_rfl⟩⟩
          · replace h := cond_f hb h
            clear hb
            refine awp_skip ?_
            refine then_normal ?_
            refine rgs0 (⟨[(2, (Q209 a_b)), (3, (.int .i64 Q213)), (4, (.int .i64 (0 : Int)))], []⟩ : St) hn mix (no_hand hΓ) (by kernel_rfl) ?_
            refine awp_ret ?_
            obtain rfl := Option.some.inj h
            exact ⟨(by intro l hh; cases hh), rfl, ⟨.inl rfl, [], by kernel_rfl⟩⟩
  · clear h hx13
    rintro ⟨i1, i2⟩ y rest hf h
    obtain rfl := Option.some.inj hf
    clear hf
    unfold m_num_Get_F1 at h
    refine awp_seq ?_
    refine awp_skip ?_
    refine then_normal ?_
    refine awp_seq ?_
    refine rgs0 (⟨[(0, (Q211 a_b)), (5, (.int .u64 i1)), (6, (.int .i64 i2)), (8, (.bool ((i2 : Int) == (10 : Int))))], []⟩ : St) hn mix (no_hand hΓ) (by kernel_rfl) ?_
    refine awp_cond ((i2 : Int) == (10 : Int)) (by kernel_rfl) (fun hb => ?_) (fun hb => ?_)
    · replace h := cond_t hb h
      clear hb
      refine rgs0 Q212 hn mix (no_hand hΓ) (by kernel_rfl) ?_
      refine awp_ret ?_
      refine then_ret ?_
      obtain rfl := Option.some.inj h
      exact ⟨(by intro l hh; cases hh), rfl, ⟨.inl rfl, [], by kernel_rfl⟩⟩
    · replace h := cond_f hb h
      clear hb
      refine awp_skip ?_
      refine then_normal ?_
      refine awp_seq ?_
      refine rgs0 (⟨[(0, (Q211 a_b)), (5, (.int .u64 i1)), (6, (.int .i64 i2)), (12, (.bool ((i2 : Int) == (a_b.length : Int))))], []⟩ : St) hn mix (no_hand hΓ) (by kernel_rfl) ?_
      refine awp_cond ((i2 : Int) == (a_b.length : Int)) (by kernel_rfl) (fun hb => ?_) (fun hb => ?_)
      · replace h := cond_t hb h
        clear hb
        refine rgs0 (⟨[(2, (.int .u64 (0 : Int))), (3, (.int .i64 (0 : Int))), (4, (.int .i64 (2 : Int)))], []⟩ : St) hn mix (no_hand hΓ) (by kernel_rfl) ?_
        refine awp_ret ?_
        refine then_ret ?_
        obtain rfl := Option.some.inj h
        exact ⟨(by intro l hh; cases hh), rfl, ⟨.inl rfl, [], by kernel_rfl⟩⟩
      · replace h := cond_f hb h
        clear hb
        refine awp_skip ?_
        refine then_normal ?_
        obtain ⟨hc8, h⟩ := chk_some h
        obtain ⟨hc9, h⟩ := chk_some h
        refine rgs [] [] (⟨[(0, (Q211 a_b)), (5, (Q210 i1 a_b i2)), (6, (.int .i64 i2))], []⟩ : St) [(InB i2 a_b.length), (0 ≤ (w64 ((7 : Int) * i2)))] hn mix (no_hand hΓ) (by kernel_rfl) ⟨hc8, hc9, trivial⟩ ?_
        refine rgs0 (⟨[(0, (Q211 a_b)), (5, (Q210 i1 a_b i2)), (6, (.int .i64 (w64 (i2 + (1 : Int)))))], []⟩ : St) hn mix (no_hand hΓ) (by kernel_rfl) ?_
        refine awp_seq ?_
        obtain ⟨hc10, h⟩ := chk_some h
        refine rgs [] [] (⟨[(0, (Q211 a_b)), (5, (Q210 i1 a_b i2)), (6, (.int .i64 (w64 (i2 + (1 : Int))))), (31, (.bool (decide (((128 : Int) : Int) ≤ (Q214 a_b i2)))))], []⟩ : St) [(InB (w64 ((w64 (i2 + (1 : Int))) - (1 : Int))) a_b.length)] hn mix (no_hand hΓ) (by kernel_rfl) ⟨hc10, trivial⟩ ?_
        refine awp_cond (decide (((128 : Int) : Int) ≤ (Q214 a_b i2))) (by kernel_rfl) (fun hb => ?_) (fun hb => ?_)
        · replace h := cond_t hb h
          clear hb
          refine awp_goto ?_
          refine then_goto ?_
          obtain rfl := Option.some.inj h
          exact ⟨rfl, rfl, le_restrict_eq [0, 5, 6] [] (by kernel_rfl) (no_hand hΓ)⟩
        · replace h := cond_f hb h
          clear hb
          refine awp_skip ?_
          refine then_normal ?_
          refine awp_seq ?_
          obtain ⟨hc11, h⟩ := chk_some h
          obtain ⟨x12, hx12, h⟩ := bind_some h
          refine rgs [⟨[], [], (.bool x12), []⟩] [] (⟨[(5, (Q210 i1 a_b i2)), (6, (.int .i64 (w64 (i2 + (1 : Int))))), (39, (.bool (!x12)))], []⟩ : St) [(InB (w64 ((w64 (i2 + (1 : Int))) - (1 : Int))) a_b.length), (Spec Tryz.prog 103 [(.int .i64 (w64 (i2 + (1 : Int)))), (.int .u8 (Q214 a_b i2))] [] (.bool x12) [])] hn mix (no_hand hΓ) (by kernel_rfl) ⟨hc11, (ok_num_ends (w64 (i2 + (1 : Int))) (Q214 a_b i2) x12 hx12), trivial⟩ ?_
          refine awp_cond (!x12) (by kernel_rfl) (fun hb => ?_) (fun hb => ?_)
          · replace h := cond_t hb h
            clear hb
            refine rgs0 Q212 hn mix (no_hand hΓ) (by kernel_rfl) ?_
            refine awp_ret ?_
            refine then_ret ?_
            obtain rfl := Option.some.inj h
            exact ⟨(by intro l hh; cases hh), rfl, ⟨.inl rfl, [], by kernel_rfl⟩⟩
          · replace h := cond_f hb h
            clear hb
            refine awp_skip ?_
            refine then_normal ?_
            refine rgs0 (⟨[(2, (Q210 i1 a_b i2)), (3, (.int .i64 (w64 (i2 + (1 : Int))))), (4, (.int .i64 (0 : Int)))], []⟩ : St) hn mix (no_hand hΓ) (by kernel_rfl) ?_
            refine awp_ret ?_
            obtain rfl := Option.some.inj h
            exact ⟨(by intro l hh; cases hh), rfl, ⟨.inl rfl, [], by kernel_rfl⟩⟩
  · clear hx13
    rintro e st' ⟨rfl, hk⟩
    obtain rfl := Option.some.inj h
    exact hk

noncomputable def Q217 (a_w0 : Treader2) (x1 : (Int × Int × Int)) : AV := (AV.list 1 eU8 (0 : Int) (a_w0.rest.drop (x1.2.1).toNat) .none)
noncomputable def Q216 (a_w0 : Treader2) : List (Nat × Own) := [(30000, .row 72 [(AV.list 1 eU8 (0 : Int) a_w0.rest .none), (.int .i64 a_w0.code)])]
noncomputable def m_code_reader_anyNumber (a_w0 : Treader2) : Option (Int × Treader2) :=
  (bif ((a_w0.code : Int) != (0 : Int)) then (some ((0 : Int), a_w0)) else ((m_num_Get a_w0.rest).bind fun x1 => (chk (0 ≤ x1.2.1 ∧ x1.2.1 ≤ (a_w0.rest.length : Int)) (some (x1.1, (⟨(a_w0.rest.drop (x1.2.1).toNat), x1.2.2⟩ : Treader2))))))
theorem ok_code_reader_anyNumber (a_w0 : Treader2) (r : (Int × Treader2)) (h : m_code_reader_anyNumber a_w0 = some r) : Spec Tryz.prog 89 [(.ptr 30000 0)] [(30000, .row 72 [(AV.list 1 eU8 (0 : Int) a_w0.rest .none), (.int .i64 a_w0.code)])] (.int .u64 r.1) [(30000, .row 72 [(AV.list 1 eU8 (0 : Int) r.2.rest .none), (.int .i64 r.2.code)])] := by
  refine spec_of_awp (fn := Tryz.f89) Tryz.func89 rfl rfl (by kernel_rfl) (fun Γ hn hΓ => ?_)
  have hn : Γ.n = 34 := hn
  unfold m_code_reader_anyNumber at h
  refine rgs0 (⟨[(0, (.ptr 30000 0))], (Q216 a_w0)⟩ : St) hn mix (hand_in hΓ rfl) (by kernel_rfl) ?_
  refine awp_seq ?_
  refine rgs0 (⟨[(0, (.ptr 30000 0)), (10, (.bool ((a_w0.code : Int) != (0 : Int))))], (Q216 a_w0)⟩ : St) hn mix (hand_in hΓ rfl) (by kernel_rfl) ?_
  refine awp_cond ((a_w0.code : Int) != (0 : Int)) (by kernel_rfl) (fun hb => ?_) (fun hb => ?_)
  · replace h := cond_t hb h
    clear hb
    refine rgs0 (⟨[(2, (.int .u64 (0 : Int)))], (Q216 a_w0)⟩ : St) hn mix (hand_in hΓ rfl) (by kernel_rfl) ?_
    refine awp_ret ?_
    refine then_ret ?_
    obtain rfl := Option.some.inj h
    exact ⟨.inl rfl, [(30000, 30000)], by kernel_rfl⟩
  · replace h := cond_f hb h
    clear hb
    refine awp_skip ?_
    refine then_normal ?_
    obtain ⟨x1, hx1, h⟩ := bind_some h
    refine rgs [⟨[], [], (.tuple [(.int .u64 x1.1), (.int .i64 x1.2.1), (.int .i64 x1.2.2)]), []⟩] [] (⟨[(0, (.ptr 30000 0)), (3, (.int .u64 x1.1)), (4, (.int .i64 x1.2.1)), (5, (.int .i64 x1.2.2))], (Q216 a_w0)⟩ : St) [(Spec Tryz.prog 96 [(AV.list 1 eU8 (0 : Int) a_w0.rest .none)] [] (.tuple [(.int .u64 x1.1), (.int .i64 x1.2.1), (.int .i64 x1.2.2)]) [])] hn mix (hand_in hΓ rfl) (by kernel_rfl) ⟨(ok_num_Get a_w0.rest x1 hx1), trivial⟩ ?_
    obtain ⟨hc2, h⟩ := chk_some h
    refine rgs [] [(27, (Q217 a_w0 x1))] (⟨[(3, (.int .u64 x1.1))], [(30000, .row 72 [(Q217 a_w0 x1), (.int .i64 x1.2.2)])]⟩ : St) [(0 ≤ x1.2.1 ∧ x1.2.1 ≤ (a_w0.rest.length : Int)), (AVle (.slice 1 (a_w0.rest.length - (x1.2.1).toNat) (fun i => eU8 (a_w0.rest.getD ((x1.2.1).toNat + i) (0 : Int))) .none) (Q217 a_w0 x1))] hn mix (hand_in hΓ rfl) (by kernel_rfl) ⟨hc2, av_drop, trivial⟩ ?_
    refine rgs0 (⟨[(2, (.int .u64 x1.1))], [(30000, .row 72 [(Q217 a_w0 x1), (.int .i64 x1.2.2)])]⟩ : St) hn mix (hand_in hΓ rfl) (by kernel_rfl) ?_
    refine awp_ret ?_
    obtain rfl := Option.some.inj h
    exact ⟨.inl rfl, [(30000, 30000)], by kernel_rfl⟩

noncomputable def Q218 (x1 : (Int × Treader2)) : List (Nat × Own) := [(30000, .row 72 [(AV.list 1 eU8 (0 : Int) x1.2.rest .none), (.int .i64 x1.2.code)])]
noncomputable def m_code_reader_within (a_least : Int) (a_most : Int) (a_w0 : Treader2) : Option (Int × Treader2) :=
  ((m_code_reader_anyNumber a_w0).bind fun x1 => (bif ((x1.2.code : Int) != (0 : Int)) then (some ((0 : Int), x1.2)) else (bif (bif (decide ((x1.1 : Int) < a_least)) then true else (decide ((a_most : Int) < x1.1))) then (some ((0 : Int), (⟨x1.2.rest, (4 : Int)⟩ : Treader2))) else (some ((w64 x1.1), x1.2)))))
theorem ok_code_reader_within (a_least : Int) (a_most : Int) (a_w0 : Treader2) (r : (Int × Treader2)) (h : m_code_reader_within a_least a_most a_w0 = some r) : Spec Tryz.prog 72 [(.ptr 30000 0), (.int .u64 a_least), (.int .u64 a_most)] [(30000, .row 72 [(AV.list 1 eU8 (0 : Int) a_w0.rest .none), (.int .i64 a_w0.code)])] (.int .i64 r.1) [(30000, .row 72 [(AV.list 1 eU8 (0 : Int) r.2.rest .none), (.int .i64 r.2.code)])] := by
  refine spec_of_awp (fn := Tryz.f72) Tryz.func72 rfl rfl (by kernel_rfl) (fun Γ hn hΓ => ?_)
  have hn : Γ.n = 28 := hn
  unfold m_code_reader_within at h
  refine rgs0 (⟨[(0, (.ptr 30000 0)), (1, (.int .u64 a_least)), (2, (.int .u64 a_most))], [(30000, .row 72 [(AV.list 1 eU8 (0 : Int) a_w0.rest .none), (.int .i64 a_w0.code)])]⟩ : St) hn mix (hand_in hΓ rfl) (by kernel_rfl) ?_
  obtain ⟨x1, hx1, h⟩ := bind_some h
  refine rgs [⟨[(30000, 30000)], [], (.int .u64 x1.1), (Q218 x1)⟩] [] (⟨[(0, (.ptr 30000 0)), (1, (.int .u64 a_least)), (2, (.int .u64 a_most)), (7, (.int .u64 x1.1))], (Q218 x1)⟩ : St) [(Spec Tryz.prog 89 [(.ptr 30000 0)] [(30000, .row 72 [(AV.list 1 eU8 (0 : Int) a_w0.rest .none), (.int .i64 a_w0.code)])] (.int .u64 x1.1) (Q218 x1))] hn mix (hand_in hΓ rfl) (by kernel_rfl) ⟨(ok_code_reader_anyNumber a_w0 x1 hx1), trivial⟩ ?_
  refine awp_seq ?_
  refine rgs0 (⟨[(0, (.ptr 30000 0)), (1, (.int .u64 a_least)), (2, (.int .u64 a_most)), (7, (.int .u64 x1.1)), (14, (.bool ((x1.2.code : Int) != (0 : Int))))], (Q218 x1)⟩ : St) hn mix (hand_in hΓ rfl) (by kernel_rfl) ?_
  refine awp_cond ((x1.2.code : Int) != (0 : Int)) (by kernel_rfl) (fun hb => ?_) (fun hb => ?_)
  · replace h := cond_t hb h
    clear hb
    refine rgs0 (⟨[(6, (.int .i64 (0 : Int)))], (Q218 x1)⟩ : St) hn mix (hand_in hΓ rfl) (by kernel_rfl) ?_
    refine awp_ret ?_
    refine then_ret ?_
    obtain rfl := Option.some.inj h
    exact ⟨.inl rfl, [(30000, 30000)], by kernel_rfl⟩
  · replace h := cond_f hb h
    clear hb
    refine awp_skip ?_
    refine then_normal ?_
    refine awp_seq ?_
    refine rgs [] [] (⟨[(0, (.ptr 30000 0)), (7, (.int .u64 x1.1)), (22, (.bool (bif (decide ((x1.1 : Int) < a_least)) then true else (decide ((a_most : Int) < x1.1)))))], (Q218 x1)⟩ : St) [(((decide ((x1.1 : Int) < a_least)) == false) = true → ((decide ((x1.1 : Int) < a_least)) == false) = true), (((decide ((x1.1 : Int) < a_least)) == false) = true → ((decide ((x1.1 : Int) < a_least)) == false) = true), ((decide ((x1.1 : Int) < a_least)) = false → ((decide ((x1.1 : Int) < a_least)) == false) = true)] hn mix (hand_in hΓ rfl) (by kernel_rfl) ⟨(fun hg => hg), (fun hg => hg), gF, trivial⟩ ?_
    refine awp_cond (bif (decide ((x1.1 : Int) < a_least)) then true else (decide ((a_most : Int) < x1.1))) (by kernel_rfl) (fun hb => ?_) (fun hb => ?_)
    · replace h := cond_t hb h
      clear hb
      refine rgs0 (⟨[], [(30000, .row 72 [(AV.list 1 eU8 (0 : Int) x1.2.rest .none), (.int .i64 (4 : Int))])]⟩ : St) hn mix (hand_in hΓ rfl) (by kernel_rfl) ?_
      refine rgs0 (⟨[(6, (.int .i64 (0 : Int)))], [(30000, .row 72 [(AV.list 1 eU8 (0 : Int) x1.2.rest .none), (.int .i64 (4 : Int))])]⟩ : St) hn mix (hand_in hΓ rfl) (by kernel_rfl) ?_
      refine awp_ret ?_
      refine then_ret ?_
      obtain rfl := Option.some.inj h
      exact ⟨.inl rfl, [(30000, 30000)], by kernel_rfl⟩
    · replace h := cond_f hb h
      clear hb
      refine awp_skip ?_
      refine then_normal ?_
      refine rgs0 (⟨[(6, (.int .i64 (w64 x1.1)))], (Q218 x1)⟩ : St) hn mix (hand_in hΓ rfl) (by kernel_rfl) ?_
      refine awp_ret ?_
      obtain rfl := Option.some.inj h
      exact ⟨.inl rfl, [(30000, 30000)], by kernel_rfl⟩

noncomputable def Q219 (x1 : (Int × Treader2)) : List (Nat × Own) := [(30000, .row 72 [(AV.list 1 eU8 (0 : Int) x1.2.rest .none), (.int .i64 x1.2.code)])]
noncomputable def m_code_reader_number (a_w0 : Treader2) : Option (Int × Treader2) :=
  ((m_code_reader_within (0 : Int) (2147483647 : Int) a_w0).bind fun x1 => (some (x1.1, x1.2)))
theorem ok_code_reader_number (a_w0 : Treader2) (r : (Int × Treader2)) (h : m_code_reader_number a_w0 = some r) : Spec Tryz.prog 46 [(.ptr 30000 0)] [(30000, .row 72 [(AV.list 1 eU8 (0 : Int) a_w0.rest .none), (.int .i64 a_w0.code)])] (.int .i64 r.1) [(30000, .row 72 [(AV.list 1 eU8 (0 : Int) r.2.rest .none), (.int .i64 r.2.code)])] := by
  refine spec_of_awp (fn := Tryz.f46) Tryz.func46 rfl rfl (by kernel_rfl) (fun Γ hn hΓ => ?_)
  have hn : Γ.n = 5 := hn
  unfold m_code_reader_number at h
  refine rgs0 (⟨[(0, (.ptr 30000 0))], [(30000, .row 72 [(AV.list 1 eU8 (0 : Int) a_w0.rest .none), (.int .i64 a_w0.code)])]⟩ : St) hn mix (hand_in hΓ rfl) (by kernel_rfl) ?_
  obtain ⟨x1, hx1, h⟩ := bind_some h
  refine rgs [⟨[(30000, 30000)], [], (.int .i64 x1.1), (Q219 x1)⟩] [] (⟨[(2, (.int .i64 x1.1))], (Q219 x1)⟩ : St) [(Spec Tryz.prog 72 [(.ptr 30000 0), (.int .u64 (0 : Int)), (.int .u64 (2147483647 : Int))] [(30000, .row 72 [(AV.list 1 eU8 (0 : Int) a_w0.rest .none), (.int .i64 a_w0.code)])] (.int .i64 x1.1) (Q219 x1))] hn mix (hand_in hΓ rfl) (by kernel_rfl) ⟨(ok_code_reader_within (0 : Int) (2147483647 : Int) a_w0 x1 hx1), trivial⟩ ?_
  refine awp_ret ?_
  obtain rfl := Option.some.inj h
  exact ⟨.inl rfl, [(30000, 30000)], by kernel_rfl⟩

noncomputable def m_code_many_int_L1 (x3 : (Int × Treader2)) : (List (Int) × Int × List (Int) × Int) → Option (LR (List (Int) × Int × List (Int) × Int) ((List (Int) × List (Int) × Int) ⊕ (List (Int) × Int))) :=
  fun ((l4, i5, l6, i7) : (List (Int) × Int × List (Int) × Int)) => (bif (decide ((i5 : Int) < x3.1)) then ((m_code_reader_number (⟨l6, i7⟩ : Treader2)).bind fun x13 => (bif ((x13.2.code : Int) != (0 : Int)) then (some (.done (.inr (x13.2.rest, x13.2.code)))) else (chk (l4.length + ([x13.1] : List (Int)).length ≤ room) (some (.next ((l4 ++ ([x13.1] : List (Int))), (w64 (i5 + (1 : Int))), x13.2.rest, x13.2.code)))))) else (some (.done (.inl (l4, l6, i7)))))
noncomputable def m_code_many_int_F2  : (List (Int) × Int) → Option (LR (List (Int) × Int) (List (Int) × Treader2)) :=
  fun (s_ : (List (Int) × Int)) => match s_ with | (l1, i2) => (some (.done (([] : List Int), (⟨l1, i2⟩ : Treader2))))
noncomputable def Q228 (x13 : (Int × Treader2)) := ([x13.1] : List (Int))
noncomputable def Q227 : AV := (.clo 46 [(.ptr 30000 0)] [])
noncomputable def Q220 : AV := (AV.list 1 eI64 (0 : Int) ([] : List Int) .exact)
noncomputable def Q223 (x3 : (Int × Treader2)) : List AV := [(AV.list 1 eU8 (0 : Int) x3.2.rest .none), (.int .i64 x3.2.code)]
noncomputable def Q221 (x13 : (Int × Treader2)) : List AV := [(AV.list 1 eU8 (0 : Int) x13.2.rest .none), (.int .i64 x13.2.code)]
noncomputable def Q225 (l4 : List (Int)) (x13 : (Int × Treader2)) : AV := (AV.list 1 eI64 (0 : Int) (l4 ++ (Q228 x13)) (.own 5009))
noncomputable def Q224 (a_w0 : Treader2) : List (Nat × Own) := [(30000, .row 72 [(AV.list 1 eU8 (0 : Int) a_w0.rest .none), (.int .i64 a_w0.code)])]
noncomputable def Q229 (x3 : (Int × Treader2)) := (⟨[(0, (.ptr 30000 0)), (3, Q227), (9, Q220), (14, (.int .i64 x3.1)), (15, (.int .i64 (0 : Int)))], [(30000, .row 72 (Q223 x3))]⟩ : St)
noncomputable def Q226 (l1 : List (Int)) (i2 : Int) := (⟨[(8, (AV.list 1 eI64 (0 : Int) ([] : List Int) (.own 6008)))], [(6008, .tok 1 3 (([] : List Int).length)), (30000, .row 72 [(AV.list 1 eU8 (0 : Int) l1 .none), (.int .i64 i2)])]⟩ : St)
noncomputable def Q222 (l4 : List (Int)) (x3 : (Int × Treader2)) (i5 : Int) (l6 : List (Int)) (i7 : Int) := (⟨[(0, (.ptr 30000 0)), (3, Q227), (9, (AV.list 1 eI64 (0 : Int) l4 (.own 5009))), (14, (.int .i64 x3.1)), (15, (.int .i64 i5))], [(5009, .tok 1 3 l4.length), (30000, .row 72 [(AV.list 1 eU8 (0 : Int) l6 .none), (.int .i64 i7)])]⟩ : St)
noncomputable def m_code_many_int (a_least : Int) (a_most : Int) (a_w0 : Treader2) : Option (List (Int) × Treader2) :=
  ((scopeO (S := (List (Int) × Int)) (X := (List (Int) × Treader2)) ((m_code_reader_within a_least a_most a_w0).bind fun x3 => ((loopO (S := (List (Int) × Int × List (Int) × Int)) (X := ((List (Int) × List (Int) × Int) ⊕ (List (Int) × Int))) (m_code_many_int_L1 x3) (([] : List Int), (0 : Int), x3.2.rest, x3.2.code)).bind (fun x15 => (match x15 with | (.inl (l8, l9, i10)) => (some (.done (l8, (⟨l9, i10⟩ : Treader2)))) | (.inr (l11, i12)) => (some (.next (l11, i12))))))) m_code_many_int_F2).bind (fun x18 => ((some x18))))
theorem ok_code_many_int (a_least : Int) (a_most : Int) (a_w0 : Treader2) (r : (List (Int) × Treader2)) (h : m_code_many_int a_least a_most a_w0 = some r) : Spec Tryz.prog 45 [(.ptr 30000 0), (.int .u64 a_least), (.int .u64 a_most), (.clo 46 [(.ptr 30000 0)] [])] [(30000, .row 72 [(AV.list 1 eU8 (0 : Int) a_w0.rest .none), (.int .i64 a_w0.code)])] (AV.list 1 eI64 (0 : Int) r.1 (.own 20000)) [(30000, .row 72 [(AV.list 1 eU8 (0 : Int) r.2.rest .none), (.int .i64 r.2.code)]), (20000, .tok 1 3 r.1.length)] := by
  refine spec_of_awp (fn := Tryz.f45) Tryz.func45 rfl rfl (by kernel_rfl) (fun Γ hn hΓ => ?_)
  have hn : Γ.n = 30 := hn
  unfold m_code_many_int at h
  refine rgs [] [(8, Q220)] (⟨[(0, (.ptr 30000 0)), (1, (.int .u64 a_least)), (2, (.int .u64 a_most)), (3, Q227)], (Q224 a_w0)⟩ : St) [(AVle (.slice 0 0 (fun _ => []) .exact) Q220)] hn mix (hand_in hΓ rfl) (by kernel_rfl) ⟨av_nil, trivial⟩ ?_
  obtain ⟨x18, hx18, h⟩ := bind_some h
  refine awp_scope (S := (List (Int) × Int)) (X := (List (Int) × Treader2)) (fun (s_ : (List (Int) × Int)) => match s_ with | (l1, i2) => 0) (fun (s_ : (List (Int) × Int)) => match s_ with | (l1, i2) => (⟨[], [(30000, .row 72 [(AV.list 1 eU8 (0 : Int) l1 .none), (.int .i64 i2)])]⟩ : St)) _ _ (fun (r_ : (List (Int) × Treader2)) (e : Exit) (st : St) => e = .ret ∧ retK Tryz.prog Tryz.f45.results.toList (Q224 a_w0) (AV.list 1 eI64 (0 : Int) r_.1 (.own 20000)) [(30000, .row 72 [(AV.list 1 eU8 (0 : Int) r_.2.rest .none), (.int .i64 r_.2.code)]), (20000, .tok 1 3 r_.1.length)] e st) ?_ ?_ hx18 ?_
  · clear h hx18
    intro y h
    refine rgs [] [(9, Q220)] (⟨[(0, (.ptr 30000 0)), (1, (.int .u64 a_least)), (2, (.int .u64 a_most)), (3, Q227), (9, Q220)], (Q224 a_w0)⟩ : St) [(AVle (.slice 0 0 (fun _ => []) .exact) Q220)] hn mix (hand_in hΓ rfl) (by kernel_rfl) ⟨av_nil, trivial⟩ ?_
    refine awp_seq ?_
    obtain ⟨x3, hx3, h⟩ := bind_some h
    refine rgs [⟨[(30000, 30000)], [], (.int .i64 x3.1), [(30000, .row 72 (Q223 x3))]⟩] [] (Q229 x3) [(Spec Tryz.prog 72 [(.ptr 30000 0), (.int .u64 a_least), (.int .u64 a_most)] (Q224 a_w0) (.int .i64 x3.1) [(30000, .row 72 (Q223 x3))])] hn mix (hand_in hΓ rfl) (by kernel_rfl) ⟨(ok_code_reader_within a_least a_most a_w0 x3 hx3), trivial⟩ ?_
    refine awp_block ?_
    refine awp_le (st' := (fun ((l4, i5, l6, i7) : (List (Int) × Int × List (Int) × Int)) => (Q222 l4 x3 i5 l6 i7)) (([] : List Int), (0 : Int), x3.2.rest, x3.2.code)) (Le.trans (le_restrict_eq (st' := (Q229 x3)) [0, 3, 9, 14, 15] [30000] (by kernel_rfl) (hand_in hΓ rfl)) (Le.trans (le_tag (t := 9) (nm := 5009) (sz' := 1) (fun i => eI64 (([] : List Int).getD i (0 : Int))) 3 rfl rfl (.inl ⟨rfl, rfl⟩) (fun h_ => absurd h_ (by decide))) (le_restrict_eq (st' := (⟨[(0, (.ptr 30000 0)), (3, Q227), (9, (AV.list 1 eI64 (0 : Int) ([] : List Int) (.own 5009))), (14, (.int .i64 x3.1)), (15, (.int .i64 (0 : Int)))], [(5009, .tok 1 3 (([] : List Int).length)), (30000, .row 72 (Q223 x3))]⟩ : St)) [0, 3, 9, 14, 15] [5009, 30000] (by kernel_rfl) (hand_in hΓ rfl)))) ?_
    obtain ⟨x15, hx15, h⟩ := bind_some h
    refine awp_loop (fun ((l4, i5, l6, i7) : (List (Int) × Int × List (Int) × Int)) => (Q222 l4 x3 i5 l6 i7)) _ (fun (x_ : ((List (Int) × List (Int) × Int) ⊕ (List (Int) × Int))) (e : Exit) (st : St) => match x_ with | (.inl (l8, l9, i10)) => e = (.exit 0) ∧ Le Γ st (⟨[(9, (AV.list 1 eI64 (0 : Int) l8 (.own 5009)))], [(5009, .tok 1 3 l8.length), (30000, .row 72 [(AV.list 1 eU8 (0 : Int) l9 .none), (.int .i64 i10)])]⟩ : St) | (.inr (l11, i12)) => e = (.goto 0) ∧ Le Γ st (⟨[], [(30000, .row 72 [(AV.list 1 eU8 (0 : Int) l11 .none), (.int .i64 i12)])]⟩ : St)) ?_ hx15 ?_
    · rintro ⟨l4, i5, l6, i7⟩ y h
      unfold m_code_many_int_L1 at h
      refine rgs0 (⟨[(0, (.ptr 30000 0)), (3, Q227), (9, (AV.list 1 eI64 (0 : Int) l4 (.own 5009))), (14, (.int .i64 x3.1)), (15, (.int .i64 i5)), (16, (.bool (decide ((i5 : Int) < x3.1))))], [(5009, .tok 1 3 l4.length), (30000, .row 72 [(AV.list 1 eU8 (0 : Int) l6 .none), (.int .i64 i7)])]⟩ : St) hn mix (hand_in hΓ rfl) (by kernel_rfl) ?_
      refine awp_seq ?_
      refine awp_cond (decide ((i5 : Int) < x3.1)) (by kernel_rfl) (fun hb => ?_) (fun hb => ?_)
      · replace h := cond_t hb h
        clear hb
        refine awp_skip ?_
        refine then_normal ?_
        refine awp_seq ?_
        refine awp_block ?_
        obtain ⟨x13, hx13, h⟩ := bind_some h
        refine rgs [⟨[(30000, 30000)], [], (.int .i64 x13.1), [(30000, .row 72 (Q221 x13))]⟩] [] (⟨[(0, (.ptr 30000 0)), (3, Q227), (9, (AV.list 1 eI64 (0 : Int) l4 (.own 5009))), (10, (.int .i64 x13.1)), (14, (.int .i64 x3.1)), (15, (.int .i64 i5))], [(5009, .tok 1 3 l4.length), (30000, .row 72 (Q221 x13))]⟩ : St) [(Spec Tryz.prog 46 [(.ptr 30000 0)] [(30000, .row 72 [(AV.list 1 eU8 (0 : Int) l6 .none), (.int .i64 i7)])] (.int .i64 x13.1) [(30000, .row 72 (Q221 x13))])] hn mix (hand_in hΓ rfl) (by kernel_rfl) ⟨(ok_code_reader_number (⟨l6, i7⟩ : Treader2) x13 hx13), trivial⟩ ?_
        refine awp_seq ?_
        refine rgs0 (⟨[(0, (.ptr 30000 0)), (3, Q227), (9, (AV.list 1 eI64 (0 : Int) l4 (.own 5009))), (10, (.int .i64 x13.1)), (14, (.int .i64 x3.1)), (15, (.int .i64 i5)), (23, (.bool ((x13.2.code : Int) != (0 : Int))))], [(5009, .tok 1 3 l4.length), (30000, .row 72 (Q221 x13))]⟩ : St) hn mix (hand_in hΓ rfl) (by kernel_rfl) ?_
        refine awp_cond ((x13.2.code : Int) != (0 : Int)) (by kernel_rfl) (fun hb => ?_) (fun hb => ?_)
        · replace h := cond_t hb h
          clear hb
          refine awp_goto ?_
          refine then_goto ?_
          refine block_goto ?_
          refine then_goto ?_
          obtain rfl := Option.some.inj h
          exact ⟨(by intro hh; cases hh), rfl, le_restrict_eq [] [30000] (by kernel_rfl) (hand_in hΓ rfl)⟩
        · replace h := cond_f hb h
          clear hb
          refine awp_skip ?_
          refine then_normal ?_
          obtain ⟨hc14, h⟩ := chk_some h
          refine rg [] [(26, (AV.list 1 eI64 (0 : Int) (Q228 x13) .exact)), (27, (Q225 l4 x13))] (⟨[(0, (.ptr 30000 0)), (3, Q227), (9, (Q225 l4 x13)), (14, (.int .i64 x3.1)), (15, (.int .i64 i5))], [(5009, .tok 1 3 ((l4 ++ (Q228 x13)).length)), (30000, .row 72 (Q221 x13))]⟩ : St) [(AVle (.slice 1 1 (fun i => ([[(.int .i64 x13.1)]] : List (List AV)).getD i []) .exact) (AV.list 1 eI64 (0 : Int) (Q228 x13) .exact)), (l4.length = l4.length), (l4.length + (Q228 x13).length ≤ room), (AVle (.slice 1 (l4.length + (Q228 x13).length) (appF l4.length (fun i => eI64 (l4.getD i (0 : Int))) (fun i => eI64 ((Q228 x13).getD i (0 : Int)))) (.own 5009)) (Q225 l4 x13)), (l4.length + (Q228 x13).length = (l4 ++ (Q228 x13)).length)] hn mix (hand_in hΓ rfl) (by kernel_rfl) ⟨(av_lit rfl (fun i hi => map_get (e := eI64) (d := (0 : Int)) (Q228 x13) i hi)), rfl, hc14, av_app, (len_app _ _), trivial⟩ ?_
          refine block_normal ?_
          refine then_normal ?_
          refine rg0 (⟨[(0, (.ptr 30000 0)), (3, Q227), (9, (Q225 l4 x13)), (14, (.int .i64 x3.1)), (15, (.int .i64 (w64 (i5 + (1 : Int)))))], [(5009, .tok 1 3 ((l4 ++ (Q228 x13)).length)), (30000, .row 72 (Q221 x13))]⟩ : St) hn mix (hand_in hΓ rfl) (by kernel_rfl) ?_
          obtain rfl := Option.some.inj h
          exact ⟨rfl, Le.refl _ _⟩
      · replace h := cond_f hb h
        clear hb
        refine awp_exit ?_
        refine then_exit ?_
        obtain rfl := Option.some.inj h
        exact ⟨(by intro hh; cases hh), rfl, le_restrict_eq [9] [5009, 30000] (by kernel_rfl) (hand_in hΓ rfl)⟩
    · clear hx15
      rcases x15 with ⟨l8, l9, i10⟩ | ⟨l11, i12⟩
      · rintro e st' ⟨rfl, hl16⟩
        refine block_here ?_
        refine then_normal ?_
        refine awp_le hl16 ?_
        refine awp_seq ?_
        refine rgs0 (⟨[(8, (AV.list 1 eI64 (0 : Int) l8 (.own 5009)))], [(5009, .tok 1 3 l8.length), (30000, .row 72 [(AV.list 1 eU8 (0 : Int) l9 .none), (.int .i64 i10)])]⟩ : St) hn mix (hand_in hΓ rfl) (by kernel_rfl) ?_
        refine awp_ret ?_
        refine then_ret ?_
        obtain rfl := Option.some.inj h
        exact ⟨(by intro l hh; cases hh), rfl, ⟨.inl rfl, [(30000, 30000), (5009, 20000)], by kernel_rfl⟩⟩
      · rintro e st' ⟨rfl, hl17⟩
        refine block_goto ?_
        refine then_goto ?_
        obtain rfl := Option.some.inj h
        exact ⟨rfl, rfl, Le.trans hl17 (Le.refl _ _)⟩
  · clear h hx18
    rintro ⟨l1, i2⟩ y rest hf h
    obtain rfl := Option.some.inj hf
    clear hf
    unfold m_code_many_int_F2 at h
    refine awp_seq ?_
    refine awp_skip ?_
    refine then_normal ?_
    refine rgs [] [(8, Q220)] (⟨[(8, Q220)], [(30000, .row 72 [(AV.list 1 eU8 (0 : Int) l1 .none), (.int .i64 i2)])]⟩ : St) [(AVle (.slice 0 0 (fun _ => []) .exact) Q220)] hn mix (hand_in hΓ rfl) (by kernel_rfl) ⟨av_nil, trivial⟩ ?_
    refine awp_le (st' := (Q226 l1 i2)) (Le.trans (le_restrict_eq (st' := (⟨[(8, Q220)], [(30000, .row 72 [(AV.list 1 eU8 (0 : Int) l1 .none), (.int .i64 i2)])]⟩ : St)) [8] [30000] (by kernel_rfl) (hand_in hΓ rfl)) (Le.trans (le_tag (t := 8) (nm := 6008) (sz' := 1) (fun i => eI64 (([] : List Int).getD i (0 : Int))) 3 rfl rfl (.inl ⟨rfl, rfl⟩) (fun h_ => absurd h_ (by decide))) (le_restrict_eq (st' := (Q226 l1 i2)) [8] [6008, 30000] (by kernel_rfl) (hand_in hΓ rfl)))) ?_
    refine awp_ret ?_
    obtain rfl := Option.some.inj h
    exact ⟨(by intro l hh; cases hh), rfl, ⟨.inl rfl, [(30000, 30000), (6008, 20000)], by kernel_rfl⟩⟩
  · clear hx18
    rintro e st' ⟨rfl, hk⟩
    obtain rfl := Option.some.inj h
    exact hk

noncomputable def m_code_reader_list (a_w0 : Treader2) : Option (List (Int) × Treader2) :=
  ((m_code_many_int (0 : Int) (64 : Int) a_w0).bind fun x1 => (some (x1.1, x1.2)))
theorem ok_code_reader_list (a_w0 : Treader2) (r : (List (Int) × Treader2)) (h : m_code_reader_list a_w0 = some r) : Spec Tryz.prog 90 [(.ptr 30000 0)] [(30000, .row 72 [(AV.list 1 eU8 (0 : Int) a_w0.rest .none), (.int .i64 a_w0.code)])] (AV.list 1 eI64 (0 : Int) r.1 (.own 20000)) [(30000, .row 72 [(AV.list 1 eU8 (0 : Int) r.2.rest .none), (.int .i64 r.2.code)]), (20000, .tok 1 3 r.1.length)] := by
  refine spec_of_awp (fn := Tryz.f90) Tryz.func90 rfl rfl (by kernel_rfl) (fun Γ hn hΓ => ?_)
  have hn : Γ.n = 7 := hn
  unfold m_code_reader_list at h
  refine rgs [] [(2, (AV.list 1 eI64 (0 : Int) ([] : List Int) .exact))] (⟨[(0, (.ptr 30000 0))], [(30000, .row 72 [(AV.list 1 eU8 (0 : Int) a_w0.rest .none), (.int .i64 a_w0.code)])]⟩ : St) [(AVle (.slice 0 0 (fun _ => []) .exact) (AV.list 1 eI64 (0 : Int) ([] : List Int) .exact))] hn mix (hand_in hΓ rfl) (by kernel_rfl) ⟨av_nil, trivial⟩ ?_
  obtain ⟨x1, hx1, h⟩ := bind_some h
  refine rgs [⟨[(30000, 30000)], [(20000, 6)], (AV.list 1 eI64 (0 : Int) x1.1 (.own 20000)), [(30000, .row 72 [(AV.list 1 eU8 (0 : Int) x1.2.rest .none), (.int .i64 x1.2.code)]), (20000, .tok 1 3 x1.1.length)]⟩] [] (⟨[(2, (AV.list 1 eI64 (0 : Int) x1.1 (.own 6)))], [(6, .tok 1 3 x1.1.length), (30000, .row 72 [(AV.list 1 eU8 (0 : Int) x1.2.rest .none), (.int .i64 x1.2.code)])]⟩ : St) [(Spec Tryz.prog 45 [(.ptr 30000 0), (.int .u64 (0 : Int)), (.int .u64 (64 : Int)), (.clo 46 [(.ptr 30000 0)] [])] [(30000, .row 72 [(AV.list 1 eU8 (0 : Int) a_w0.rest .none), (.int .i64 a_w0.code)])] (AV.list 1 eI64 (0 : Int) x1.1 (.own 20000)) [(30000, .row 72 [(AV.list 1 eU8 (0 : Int) x1.2.rest .none), (.int .i64 x1.2.code)]), (20000, .tok 1 3 x1.1.length)])] hn mix (hand_in hΓ rfl) (by kernel_rfl) ⟨(ok_code_many_int (0 : Int) (64 : Int) a_w0 x1 hx1), trivial⟩ ?_
  refine awp_ret ?_
  obtain rfl := Option.some.inj h
  exact ⟨.inl rfl, [(30000, 30000), (6, 20000)], by kernel_rfl⟩

noncomputable def Q235 : List (Nat × AV) := [(0, (.ptr 30000 0)), (2, (.ptr 2 0)), (3, (.ptr 3 0))]
noncomputable def Q231 (x1 : (Int × Treader2)) : List AV := [(AV.list 1 eU8 (0 : Int) x1.2.rest .none), (.int .i64 x1.2.code)]
noncomputable def Q232 (x2 : (Int × Treader2)) : List AV := [(AV.list 1 eU8 (0 : Int) x2.2.rest .none), (.int .i64 x2.2.code)]
noncomputable def Q233 (x3 : (List (Int) × Treader2)) : List AV := [(AV.list 1 eU8 (0 : Int) x3.2.rest .none), (.int .i64 x3.2.code)]
noncomputable def Q234 (x4 : (List (Int) × Treader2)) : List AV := [(AV.list 1 eU8 (0 : Int) x4.2.rest .none), (.int .i64 x4.2.code)]
noncomputable def Q236 (a_w0 : Treader2) : List AV := [(AV.list 1 eU8 (0 : Int) a_w0.rest .none), (.int .i64 a_w0.code)]
noncomputable def Q230 : List AV := [(.int .i64 (0 : Int)), (.int .i64 (0 : Int)), (.slice 0 0 (fun _ => []) .exact), (.slice 0 0 (fun _ => []) .exact)]
noncomputable def m_code_reader_phi (a_w0 : Treader2) : Option (TPhi × Treader2) :=
  ((m_code_reader_number a_w0).bind fun x1 => ((m_code_reader_number x1.2).bind fun x2 => ((m_code_reader_list x2.2).bind fun x3 => ((m_code_reader_list x3.2).bind fun x4 => (some ((⟨x1.1, x2.1, x3.1, x4.1⟩ : TPhi), x4.2))))))
theorem ok_code_reader_phi (a_w0 : Treader2) (r : (TPhi × Treader2)) (h : m_code_reader_phi a_w0 = some r) : Spec Tryz.prog 74 [(.ptr 30000 0)] [(30000, .row 72 [(AV.list 1 eU8 (0 : Int) a_w0.rest .none), (.int .i64 a_w0.code)])] (.agg (eTPhi r.1)) [(30000, .row 72 [(AV.list 1 eU8 (0 : Int) r.2.rest .none), (.int .i64 r.2.code)])] := by
  refine spec_of_awp (fn := Tryz.f74) Tryz.func74 rfl rfl (by kernel_rfl) (fun Γ hn hΓ => ?_)
  have hn : Γ.n = 17 := hn
  unfold m_code_reader_phi at h
  refine rgs0 (⟨[(0, (.ptr 30000 0)), (2, (.ptr 2 0))], [(2, .row 49 Q230), (30000, .row 72 (Q236 a_w0))]⟩ : St) hn mix (hand_in hΓ rfl) (by kernel_rfl) ?_
  refine rgs0 (⟨Q235, [(2, .row 49 Q230), (3, .row 49 Q230), (30000, .row 72 (Q236 a_w0))]⟩ : St) hn mix (hand_in hΓ rfl) (by kernel_rfl) ?_
  obtain ⟨x1, hx1, h⟩ := bind_some h
  refine rgs [⟨[(30000, 30000)], [], (.int .i64 x1.1), [(30000, .row 72 (Q231 x1))]⟩] [] (⟨Q235, [(2, .row 49 Q230), (3, .row 49 [(.int .i64 x1.1), (.int .i64 (0 : Int)), (.slice 0 0 (fun _ => []) .exact), (.slice 0 0 (fun _ => []) .exact)]), (30000, .row 72 (Q231 x1))]⟩ : St) [(Spec Tryz.prog 46 [(.ptr 30000 0)] [(30000, .row 72 (Q236 a_w0))] (.int .i64 x1.1) [(30000, .row 72 (Q231 x1))])] hn mix (hand_in hΓ rfl) (by kernel_rfl) ⟨(ok_code_reader_number a_w0 x1 hx1), trivial⟩ ?_
  obtain ⟨x2, hx2, h⟩ := bind_some h
  refine rgs [⟨[(30000, 30000)], [], (.int .i64 x2.1), [(30000, .row 72 (Q232 x2))]⟩] [] (⟨Q235, [(2, .row 49 Q230), (3, .row 49 [(.int .i64 x1.1), (.int .i64 x2.1), (.slice 0 0 (fun _ => []) .exact), (.slice 0 0 (fun _ => []) .exact)]), (30000, .row 72 (Q232 x2))]⟩ : St) [(Spec Tryz.prog 46 [(.ptr 30000 0)] [(30000, .row 72 (Q231 x1))] (.int .i64 x2.1) [(30000, .row 72 (Q232 x2))])] hn mix (hand_in hΓ rfl) (by kernel_rfl) ⟨(ok_code_reader_number x1.2 x2 hx2), trivial⟩ ?_
  obtain ⟨x3, hx3, h⟩ := bind_some h
  refine rgs [⟨[(30000, 30000)], [(20000, 11)], (AV.list 1 eI64 (0 : Int) x3.1 (.own 20000)), [(30000, .row 72 (Q233 x3)), (20000, .tok 1 3 x3.1.length)]⟩] [] (⟨Q235, [(2, .row 49 Q230), (3, .row 49 [(.int .i64 x1.1), (.int .i64 x2.1), (AV.list 1 eI64 (0 : Int) x3.1 (.own 11)), (.slice 0 0 (fun _ => []) .exact)]), (11, .tok 1 3 x3.1.length), (30000, .row 72 (Q233 x3))]⟩ : St) [(Spec Tryz.prog 90 [(.ptr 30000 0)] [(30000, .row 72 (Q232 x2))] (AV.list 1 eI64 (0 : Int) x3.1 (.own 20000)) [(30000, .row 72 (Q233 x3)), (20000, .tok 1 3 x3.1.length)])] hn mix (hand_in hΓ rfl) (by kernel_rfl) ⟨(ok_code_reader_list x2.2 x3 hx3), trivial⟩ ?_
  obtain ⟨x4, hx4, h⟩ := bind_some h
  refine rgs [⟨[(30000, 30000)], [(20000, 14)], (AV.list 1 eI64 (0 : Int) x4.1 (.own 20000)), [(30000, .row 72 (Q234 x4)), (20000, .tok 1 3 x4.1.length)]⟩] [] (⟨[(2, (.ptr 2 0)), (3, (.ptr 3 0))], [(2, .row 49 Q230), (3, .row 49 [(.int .i64 x1.1), (.int .i64 x2.1), (AV.list 1 eI64 (0 : Int) x3.1 (.own 11)), (AV.list 1 eI64 (0 : Int) x4.1 (.own 14))]), (11, .tok 1 3 x3.1.length), (14, .tok 1 3 x4.1.length), (30000, .row 72 (Q234 x4))]⟩ : St) [(Spec Tryz.prog 90 [(.ptr 30000 0)] [(30000, .row 72 (Q233 x3))] (AV.list 1 eI64 (0 : Int) x4.1 (.own 20000)) [(30000, .row 72 (Q234 x4)), (20000, .tok 1 3 x4.1.length)])] hn mix (hand_in hΓ rfl) (by kernel_rfl) ⟨(ok_code_reader_list x3.2 x4 hx4), trivial⟩ ?_
  refine rgs0 (⟨[(2, (.ptr 2 0))], [(2, .row 49 [(.int .i64 x1.1), (.int .i64 x2.1), (AV.list 1 eI64 (0 : Int) x3.1 (.own 11)), (AV.list 1 eI64 (0 : Int) x4.1 (.own 14))]), (11, .tok 1 3 x3.1.length), (14, .tok 1 3 x4.1.length), (30000, .row 72 (Q234 x4))]⟩ : St) hn mix (hand_in hΓ rfl) (by kernel_rfl) ?_
  refine awp_ret ?_
  obtain rfl := Option.some.inj h
  exact ⟨.inl rfl, [(30000, 30000)], by kernel_rfl⟩

noncomputable def m_code_many_api_Phi_L1 (x3 : (Int × Treader2)) : (List (TPhi) × Int × List (Int) × Int) → Option (LR (List (TPhi) × Int × List (Int) × Int) ((List (TPhi) × List (Int) × Int) ⊕ (List (Int) × Int))) :=
  fun ((l4, i5, l6, i7) : (List (TPhi) × Int × List (Int) × Int)) => (bif (decide ((i5 : Int) < x3.1)) then ((m_code_reader_phi (⟨l6, i7⟩ : Treader2)).bind fun x13 => (bif ((x13.2.code : Int) != (0 : Int)) then (some (.done (.inr (x13.2.rest, x13.2.code)))) else (chk (l4.length + ([(⟨x13.1.Bits, x13.1.Dst, x13.1.From, x13.1.Args⟩ : TPhi)] : List (TPhi)).length ≤ room) (some (.next ((l4 ++ ([(⟨x13.1.Bits, x13.1.Dst, x13.1.From, x13.1.Args⟩ : TPhi)] : List (TPhi))), (w64 (i5 + (1 : Int))), x13.2.rest, x13.2.code)))))) else (some (.done (.inl (l4, l6, i7)))))
noncomputable def m_code_many_api_Phi_F2  : (List (Int) × Int) → Option (LR (List (Int) × Int) (List (TPhi) × Treader2)) :=
  fun (s_ : (List (Int) × Int)) => match s_ with | (l1, i2) => (some (.done (([] : List TPhi), (⟨l1, i2⟩ : Treader2))))
noncomputable def Q245 : AV := (.clo 74 [(.ptr 30000 0)] [])
noncomputable def Q238 : AV := (AV.list 4 eTPhi (default : TPhi) ([] : List TPhi) .exact)
noncomputable def Q237 (x13 : (TPhi × Treader2)) := ([(⟨x13.1.Bits, x13.1.Dst, x13.1.From, x13.1.Args⟩ : TPhi)] : List (TPhi))
noncomputable def Q246 (l4 : List (TPhi)) (x13 : (TPhi × Treader2)) : AV := (AV.list 4 eTPhi (default : TPhi) (l4 ++ (Q237 x13)) (.own 5009))
noncomputable def Q242 (x3 : (Int × Treader2)) : List AV := [(AV.list 1 eU8 (0 : Int) x3.2.rest .none), (.int .i64 x3.2.code)]
noncomputable def Q239 (x13 : (TPhi × Treader2)) : List AV := [(AV.list 1 eU8 (0 : Int) x13.2.rest .none), (.int .i64 x13.2.code)]
noncomputable def Q243 (a_w0 : Treader2) : List (Nat × Own) := [(30000, .row 72 [(AV.list 1 eU8 (0 : Int) a_w0.rest .none), (.int .i64 a_w0.code)])]
noncomputable def Q247 (x3 : (Int × Treader2)) := (⟨[(0, (.ptr 30000 0)), (3, Q245), (9, Q238), (14, (.int .i64 x3.1)), (15, (.int .i64 (0 : Int)))], [(30000, .row 72 (Q242 x3))]⟩ : St)
noncomputable def Q241 (x13 : (TPhi × Treader2)) : List AV := [(.int .i64 x13.1.Bits), (.int .i64 x13.1.Dst), (AV.list 1 eI64 (0 : Int) x13.1.From .none), (AV.list 1 eI64 (0 : Int) x13.1.Args .none)]
noncomputable def Q244 (l1 : List (Int)) (i2 : Int) := (⟨[(8, (AV.list 4 eTPhi (default : TPhi) ([] : List TPhi) (.own 6008)))], [(6008, .tok 4 49 (([] : List TPhi).length)), (30000, .row 72 [(AV.list 1 eU8 (0 : Int) l1 .none), (.int .i64 i2)])]⟩ : St)
noncomputable def Q240 (l4 : List (TPhi)) (x3 : (Int × Treader2)) (i5 : Int) (l6 : List (Int)) (i7 : Int) := (⟨[(0, (.ptr 30000 0)), (3, Q245), (9, (AV.list 4 eTPhi (default : TPhi) l4 (.own 5009))), (14, (.int .i64 x3.1)), (15, (.int .i64 i5))], [(5009, .tok 4 49 l4.length), (30000, .row 72 [(AV.list 1 eU8 (0 : Int) l6 .none), (.int .i64 i7)])]⟩ : St)
noncomputable def m_code_many_api_Phi (a_least : Int) (a_most : Int) (a_w0 : Treader2) : Option (List (TPhi) × Treader2) :=
  ((scopeO (S := (List (Int) × Int)) (X := (List (TPhi) × Treader2)) ((m_code_reader_within a_least a_most a_w0).bind fun x3 => ((loopO (S := (List (TPhi) × Int × List (Int) × Int)) (X := ((List (TPhi) × List (Int) × Int) ⊕ (List (Int) × Int))) (m_code_many_api_Phi_L1 x3) (([] : List TPhi), (0 : Int), x3.2.rest, x3.2.code)).bind (fun x15 => (match x15 with | (.inl (l8, l9, i10)) => (some (.done (l8, (⟨l9, i10⟩ : Treader2)))) | (.inr (l11, i12)) => (some (.next (l11, i12))))))) m_code_many_api_Phi_F2).bind (fun x18 => ((some x18))))
theorem ok_code_many_api_Phi (a_least : Int) (a_most : Int) (a_w0 : Treader2) (r : (List (TPhi) × Treader2)) (h : m_code_many_api_Phi a_least a_most a_w0 = some r) : Spec Tryz.prog 73 [(.ptr 30000 0), (.int .u64 a_least), (.int .u64 a_most), (.clo 74 [(.ptr 30000 0)] [])] [(30000, .row 72 [(AV.list 1 eU8 (0 : Int) a_w0.rest .none), (.int .i64 a_w0.code)])] (AV.list 4 eTPhi (default : TPhi) r.1 (.own 20000)) [(30000, .row 72 [(AV.list 1 eU8 (0 : Int) r.2.rest .none), (.int .i64 r.2.code)]), (20000, .tok 4 49 r.1.length)] := by
  refine spec_of_awp (fn := Tryz.f73) Tryz.func73 rfl rfl (by kernel_rfl) (fun Γ hn hΓ => ?_)
  have hn : Γ.n = 30 := hn
  unfold m_code_many_api_Phi at h
  refine rgs [] [(8, Q238)] (⟨[(0, (.ptr 30000 0)), (1, (.int .u64 a_least)), (2, (.int .u64 a_most)), (3, Q245)], (Q243 a_w0)⟩ : St) [(AVle (.slice 0 0 (fun _ => []) .exact) Q238)] hn mix (hand_in hΓ rfl) (by kernel_rfl) ⟨av_nil, trivial⟩ ?_
  obtain ⟨x18, hx18, h⟩ := bind_some h
  refine awp_scope (S := (List (Int) × Int)) (X := (List (TPhi) × Treader2)) (fun (s_ : (List (Int) × Int)) => match s_ with | (l1, i2) => 0) (fun (s_ : (List (Int) × Int)) => match s_ with | (l1, i2) => (⟨[], [(30000, .row 72 [(AV.list 1 eU8 (0 : Int) l1 .none), (.int .i64 i2)])]⟩ : St)) _ _ (fun (r_ : (List (TPhi) × Treader2)) (e : Exit) (st : St) => e = .ret ∧ retK Tryz.prog Tryz.f73.results.toList (Q243 a_w0) (AV.list 4 eTPhi (default : TPhi) r_.1 (.own 20000)) [(30000, .row 72 [(AV.list 1 eU8 (0 : Int) r_.2.rest .none), (.int .i64 r_.2.code)]), (20000, .tok 4 49 r_.1.length)] e st) ?_ ?_ hx18 ?_
  · clear h hx18
    intro y h
    refine rgs [] [(9, Q238)] (⟨[(0, (.ptr 30000 0)), (1, (.int .u64 a_least)), (2, (.int .u64 a_most)), (3, Q245), (9, Q238)], (Q243 a_w0)⟩ : St) [(AVle (.slice 0 0 (fun _ => []) .exact) Q238)] hn mix (hand_in hΓ rfl) (by kernel_rfl) ⟨av_nil, trivial⟩ ?_
    refine awp_seq ?_
    obtain ⟨x3, hx3, h⟩ := bind_some h
    refine rgs [⟨[(30000, 30000)], [], (.int .i64 x3.1), [(30000, .row 72 (Q242 x3))]⟩] [] (Q247 x3) [(Spec Tryz.prog 72 [(.ptr 30000 0), (.int .u64 a_least), (.int .u64 a_most)] (Q243 a_w0) (.int .i64 x3.1) [(30000, .row 72 (Q242 x3))])] hn mix (hand_in hΓ rfl) (by kernel_rfl) ⟨(ok_code_reader_within a_least a_most a_w0 x3 hx3), trivial⟩ ?_
    refine awp_block ?_
    refine awp_le (st' := (fun ((l4, i5, l6, i7) : (List (TPhi) × Int × List (Int) × Int)) => (Q240 l4 x3 i5 l6 i7)) (([] : List TPhi), (0 : Int), x3.2.rest, x3.2.code)) (Le.trans (le_restrict_eq (st' := (Q247 x3)) [0, 3, 9, 14, 15] [30000] (by kernel_rfl) (hand_in hΓ rfl)) (Le.trans (le_tag (t := 9) (nm := 5009) (sz' := 4) (fun i => eTPhi (([] : List TPhi).getD i (default : TPhi))) 49 rfl rfl (.inl ⟨rfl, rfl⟩) (fun h_ => absurd h_ (by decide))) (le_restrict_eq (st' := (⟨[(0, (.ptr 30000 0)), (3, Q245), (9, (AV.list 4 eTPhi (default : TPhi) ([] : List TPhi) (.own 5009))), (14, (.int .i64 x3.1)), (15, (.int .i64 (0 : Int)))], [(5009, .tok 4 49 (([] : List TPhi).length)), (30000, .row 72 (Q242 x3))]⟩ : St)) [0, 3, 9, 14, 15] [5009, 30000] (by kernel_rfl) (hand_in hΓ rfl)))) ?_
    obtain ⟨x15, hx15, h⟩ := bind_some h
    refine awp_loop (fun ((l4, i5, l6, i7) : (List (TPhi) × Int × List (Int) × Int)) => (Q240 l4 x3 i5 l6 i7)) _ (fun (x_ : ((List (TPhi) × List (Int) × Int) ⊕ (List (Int) × Int))) (e : Exit) (st : St) => match x_ with | (.inl (l8, l9, i10)) => e = (.exit 0) ∧ Le Γ st (⟨[(9, (AV.list 4 eTPhi (default : TPhi) l8 (.own 5009)))], [(5009, .tok 4 49 l8.length), (30000, .row 72 [(AV.list 1 eU8 (0 : Int) l9 .none), (.int .i64 i10)])]⟩ : St) | (.inr (l11, i12)) => e = (.goto 0) ∧ Le Γ st (⟨[], [(30000, .row 72 [(AV.list 1 eU8 (0 : Int) l11 .none), (.int .i64 i12)])]⟩ : St)) ?_ hx15 ?_
    · rintro ⟨l4, i5, l6, i7⟩ y h
      unfold m_code_many_api_Phi_L1 at h
      refine rgs0 (⟨[(0, (.ptr 30000 0)), (3, Q245), (9, (AV.list 4 eTPhi (default : TPhi) l4 (.own 5009))), (14, (.int .i64 x3.1)), (15, (.int .i64 i5)), (16, (.bool (decide ((i5 : Int) < x3.1))))], [(5009, .tok 4 49 l4.length), (30000, .row 72 [(AV.list 1 eU8 (0 : Int) l6 .none), (.int .i64 i7)])]⟩ : St) hn mix (hand_in hΓ rfl) (by kernel_rfl) ?_
      refine awp_seq ?_
      refine awp_cond (decide ((i5 : Int) < x3.1)) (by kernel_rfl) (fun hb => ?_) (fun hb => ?_)
      · replace h := cond_t hb h
        clear hb
        refine awp_skip ?_
        refine then_normal ?_
        refine awp_seq ?_
        refine awp_block ?_
        obtain ⟨x13, hx13, h⟩ := bind_some h
        refine rgs [⟨[(30000, 30000)], [], (.agg (eTPhi x13.1)), [(30000, .row 72 (Q239 x13))]⟩] [] (⟨[(0, (.ptr 30000 0)), (3, Q245), (9, (AV.list 4 eTPhi (default : TPhi) l4 (.own 5009))), (10, (.ptr 10 0)), (14, (.int .i64 x3.1)), (15, (.int .i64 i5))], [(10, .row 49 (Q241 x13)), (5009, .tok 4 49 l4.length), (30000, .row 72 (Q239 x13))]⟩ : St) [(Spec Tryz.prog 74 [(.ptr 30000 0)] [(30000, .row 72 [(AV.list 1 eU8 (0 : Int) l6 .none), (.int .i64 i7)])] (.agg (eTPhi x13.1)) [(30000, .row 72 (Q239 x13))])] hn mix (hand_in hΓ rfl) (by kernel_rfl) ⟨(ok_code_reader_phi (⟨l6, i7⟩ : Treader2) x13 hx13), trivial⟩ ?_
        refine awp_seq ?_
        refine rgs0 (⟨[(0, (.ptr 30000 0)), (3, Q245), (9, (AV.list 4 eTPhi (default : TPhi) l4 (.own 5009))), (10, (.ptr 10 0)), (14, (.int .i64 x3.1)), (15, (.int .i64 i5)), (23, (.bool ((x13.2.code : Int) != (0 : Int))))], [(10, .row 49 (Q241 x13)), (5009, .tok 4 49 l4.length), (30000, .row 72 (Q239 x13))]⟩ : St) hn mix (hand_in hΓ rfl) (by kernel_rfl) ?_
        refine awp_cond ((x13.2.code : Int) != (0 : Int)) (by kernel_rfl) (fun hb => ?_) (fun hb => ?_)
        · replace h := cond_t hb h
          clear hb
          refine awp_goto ?_
          refine then_goto ?_
          refine block_goto ?_
          refine then_goto ?_
          obtain rfl := Option.some.inj h
          exact ⟨(by intro hh; cases hh), rfl, le_restrict_eq [] [30000] (by kernel_rfl) (hand_in hΓ rfl)⟩
        · replace h := cond_f hb h
          clear hb
          refine awp_skip ?_
          refine then_normal ?_
          obtain ⟨hc14, h⟩ := chk_some h
          refine rg [] [(26, (AV.list 4 eTPhi (default : TPhi) (Q237 x13) .exact)), (27, (Q246 l4 x13))] (⟨[(0, (.ptr 30000 0)), (3, Q245), (9, (Q246 l4 x13)), (14, (.int .i64 x3.1)), (15, (.int .i64 i5))], [(5009, .tok 4 49 ((l4 ++ (Q237 x13)).length)), (30000, .row 72 (Q239 x13))]⟩ : St) [(AVle (.slice 4 1 (fun i => ([(Q241 x13)] : List (List AV)).getD i []) .exact) (AV.list 4 eTPhi (default : TPhi) (Q237 x13) .exact)), (l4.length = l4.length), (l4.length + (Q237 x13).length ≤ room), (AVle (.slice 4 (l4.length + (Q237 x13).length) (appF l4.length (fun i => eTPhi (l4.getD i (default : TPhi))) (fun i => eTPhi ((Q237 x13).getD i (default : TPhi)))) (.own 5009)) (Q246 l4 x13)), (l4.length + (Q237 x13).length = (l4 ++ (Q237 x13)).length)] hn mix (hand_in hΓ rfl) (by kernel_rfl) ⟨(av_lit rfl (fun i hi => map_get (e := eTPhi) (d := (default : TPhi)) (Q237 x13) i hi)), rfl, hc14, av_app, (len_app _ _), trivial⟩ ?_
          refine block_normal ?_
          refine then_normal ?_
          refine rg0 (⟨[(0, (.ptr 30000 0)), (3, Q245), (9, (Q246 l4 x13)), (14, (.int .i64 x3.1)), (15, (.int .i64 (w64 (i5 + (1 : Int)))))], [(5009, .tok 4 49 ((l4 ++ (Q237 x13)).length)), (30000, .row 72 (Q239 x13))]⟩ : St) hn mix (hand_in hΓ rfl) (by kernel_rfl) ?_
          obtain rfl := Option.some.inj h
          exact ⟨rfl, Le.refl _ _⟩
      · replace h := cond_f hb h
        clear hb
        refine awp_exit ?_
        refine then_exit ?_
        obtain rfl := Option.some.inj h
        exact ⟨(by intro hh; cases hh), rfl, le_restrict_eq [9] [5009, 30000] (by kernel_rfl) (hand_in hΓ rfl)⟩
    · clear hx15
      rcases x15 with ⟨l8, l9, i10⟩ | ⟨l11, i12⟩
      · rintro e st' ⟨rfl, hl16⟩
        refine block_here ?_
        refine then_normal ?_
        refine awp_le hl16 ?_
        refine awp_seq ?_
        refine rgs0 (⟨[(8, (AV.list 4 eTPhi (default : TPhi) l8 (.own 5009)))], [(5009, .tok 4 49 l8.length), (30000, .row 72 [(AV.list 1 eU8 (0 : Int) l9 .none), (.int .i64 i10)])]⟩ : St) hn mix (hand_in hΓ rfl) (by kernel_rfl) ?_
        refine awp_ret ?_
        refine then_ret ?_
        obtain rfl := Option.some.inj h
        exact ⟨(by intro l hh; cases hh), rfl, ⟨.inl rfl, [(30000, 30000), (5009, 20000)], by kernel_rfl⟩⟩
      · rintro e st' ⟨rfl, hl17⟩
        refine block_goto ?_
        refine then_goto ?_
        obtain rfl := Option.some.inj h
        exact ⟨rfl, rfl, Le.trans hl17 (Le.refl _ _)⟩
  · clear h hx18
    rintro ⟨l1, i2⟩ y rest hf h
    obtain rfl := Option.some.inj hf
    clear hf
    unfold m_code_many_api_Phi_F2 at h
    refine awp_seq ?_
    refine awp_skip ?_
    refine then_normal ?_
    refine rgs [] [(8, Q238)] (⟨[(8, Q238)], [(30000, .row 72 [(AV.list 1 eU8 (0 : Int) l1 .none), (.int .i64 i2)])]⟩ : St) [(AVle (.slice 0 0 (fun _ => []) .exact) Q238)] hn mix (hand_in hΓ rfl) (by kernel_rfl) ⟨av_nil, trivial⟩ ?_
    refine awp_le (st' := (Q244 l1 i2)) (Le.trans (le_restrict_eq (st' := (⟨[(8, Q238)], [(30000, .row 72 [(AV.list 1 eU8 (0 : Int) l1 .none), (.int .i64 i2)])]⟩ : St)) [8] [30000] (by kernel_rfl) (hand_in hΓ rfl)) (Le.trans (le_tag (t := 8) (nm := 6008) (sz' := 4) (fun i => eTPhi (([] : List TPhi).getD i (default : TPhi))) 49 rfl rfl (.inl ⟨rfl, rfl⟩) (fun h_ => absurd h_ (by decide))) (le_restrict_eq (st' := (Q244 l1 i2)) [8] [6008, 30000] (by kernel_rfl) (hand_in hΓ rfl)))) ?_
    refine awp_ret ?_
    obtain rfl := Option.some.inj h
    exact ⟨(by intro l hh; cases hh), rfl, ⟨.inl rfl, [(30000, 30000), (6008, 20000)], by kernel_rfl⟩⟩
  · clear hx18
    rintro e st' ⟨rfl, hk⟩
    obtain rfl := Option.some.inj h
    exact hk

noncomputable def Q249 : List (Nat × AV) := [(0, (.ptr 30000 0)), (2, (.ptr 2 0)), (3, (.ptr 3 0))]
noncomputable def Q250 (x1 : (Int × Treader2)) : List AV := [(AV.list 1 eU8 (0 : Int) x1.2.rest .none), (.int .i64 x1.2.code)]
noncomputable def Q251 (x2 : (Int × Treader2)) : List AV := [(AV.list 1 eU8 (0 : Int) x2.2.rest .none), (.int .i64 x2.2.code)]
noncomputable def Q252 (x3 : (Int × Treader2)) : List AV := [(AV.list 1 eU8 (0 : Int) x3.2.rest .none), (.int .i64 x3.2.code)]
noncomputable def Q253 (x4 : (Int × Treader2)) : List AV := [(AV.list 1 eU8 (0 : Int) x4.2.rest .none), (.int .i64 x4.2.code)]
noncomputable def Q254 (x5 : (List (Int) × Treader2)) : List AV := [(AV.list 1 eU8 (0 : Int) x5.2.rest .none), (.int .i64 x5.2.code)]
noncomputable def Q255 (x6 : (Int × Treader2)) : List AV := [(AV.list 1 eU8 (0 : Int) x6.2.rest .none), (.int .i64 x6.2.code)]
noncomputable def Q256 (a_w0 : Treader2) : List AV := [(AV.list 1 eU8 (0 : Int) a_w0.rest .none), (.int .i64 a_w0.code)]
noncomputable def Q248 : List AV := [(.int .i64 (0 : Int)), (.int .i64 (0 : Int)), (.int .i64 (0 : Int)), (.int .i64 (0 : Int)), (.slice 0 0 (fun _ => []) .exact), (.int .u64 (0 : Int))]
noncomputable def m_code_reader_op (a_w0 : Treader2) : Option (TOp × Treader2) :=
  ((m_code_reader_number a_w0).bind fun x1 => ((m_code_reader_number x1.2).bind fun x2 => ((m_code_reader_number x2.2).bind fun x3 => ((m_code_reader_number x3.2).bind fun x4 => ((m_code_reader_list x4.2).bind fun x5 => ((m_code_reader_anyNumber x5.2).bind fun x6 => (some ((⟨x1.1, x2.1, x3.1, x4.1, x5.1, x6.1⟩ : TOp), x6.2))))))))
theorem ok_code_reader_op (a_w0 : Treader2) (r : (TOp × Treader2)) (h : m_code_reader_op a_w0 = some r) : Spec Tryz.prog 76 [(.ptr 30000 0)] [(30000, .row 72 [(AV.list 1 eU8 (0 : Int) a_w0.rest .none), (.int .i64 a_w0.code)])] (.agg (eTOp r.1)) [(30000, .row 72 [(AV.list 1 eU8 (0 : Int) r.2.rest .none), (.int .i64 r.2.code)])] := by
  refine spec_of_awp (fn := Tryz.f76) Tryz.func76 rfl rfl (by kernel_rfl) (fun Γ hn hΓ => ?_)
  have hn : Γ.n = 23 := hn
  unfold m_code_reader_op at h
  refine rgs0 (⟨[(0, (.ptr 30000 0)), (2, (.ptr 2 0))], [(2, .row 41 Q248), (30000, .row 72 (Q256 a_w0))]⟩ : St) hn mix (hand_in hΓ rfl) (by kernel_rfl) ?_
  refine rgs0 (⟨Q249, [(2, .row 41 Q248), (3, .row 41 Q248), (30000, .row 72 (Q256 a_w0))]⟩ : St) hn mix (hand_in hΓ rfl) (by kernel_rfl) ?_
  obtain ⟨x1, hx1, h⟩ := bind_some h
  refine rgs [⟨[(30000, 30000)], [], (.int .i64 x1.1), [(30000, .row 72 (Q250 x1))]⟩] [] (⟨Q249, [(2, .row 41 Q248), (3, .row 41 [(.int .i64 x1.1), (.int .i64 (0 : Int)), (.int .i64 (0 : Int)), (.int .i64 (0 : Int)), (.slice 0 0 (fun _ => []) .exact), (.int .u64 (0 : Int))]), (30000, .row 72 (Q250 x1))]⟩ : St) [(Spec Tryz.prog 46 [(.ptr 30000 0)] [(30000, .row 72 (Q256 a_w0))] (.int .i64 x1.1) [(30000, .row 72 (Q250 x1))])] hn mix (hand_in hΓ rfl) (by kernel_rfl) ⟨(ok_code_reader_number a_w0 x1 hx1), trivial⟩ ?_
  obtain ⟨x2, hx2, h⟩ := bind_some h
  refine rgs [⟨[(30000, 30000)], [], (.int .i64 x2.1), [(30000, .row 72 (Q251 x2))]⟩] [] (⟨Q249, [(2, .row 41 Q248), (3, .row 41 [(.int .i64 x1.1), (.int .i64 x2.1), (.int .i64 (0 : Int)), (.int .i64 (0 : Int)), (.slice 0 0 (fun _ => []) .exact), (.int .u64 (0 : Int))]), (30000, .row 72 (Q251 x2))]⟩ : St) [(Spec Tryz.prog 46 [(.ptr 30000 0)] [(30000, .row 72 (Q250 x1))] (.int .i64 x2.1) [(30000, .row 72 (Q251 x2))])] hn mix (hand_in hΓ rfl) (by kernel_rfl) ⟨(ok_code_reader_number x1.2 x2 hx2), trivial⟩ ?_
  obtain ⟨x3, hx3, h⟩ := bind_some h
  refine rgs [⟨[(30000, 30000)], [], (.int .i64 x3.1), [(30000, .row 72 (Q252 x3))]⟩] [] (⟨Q249, [(2, .row 41 Q248), (3, .row 41 [(.int .i64 x1.1), (.int .i64 x2.1), (.int .i64 x3.1), (.int .i64 (0 : Int)), (.slice 0 0 (fun _ => []) .exact), (.int .u64 (0 : Int))]), (30000, .row 72 (Q252 x3))]⟩ : St) [(Spec Tryz.prog 46 [(.ptr 30000 0)] [(30000, .row 72 (Q251 x2))] (.int .i64 x3.1) [(30000, .row 72 (Q252 x3))])] hn mix (hand_in hΓ rfl) (by kernel_rfl) ⟨(ok_code_reader_number x2.2 x3 hx3), trivial⟩ ?_
  obtain ⟨x4, hx4, h⟩ := bind_some h
  refine rgs [⟨[(30000, 30000)], [], (.int .i64 x4.1), [(30000, .row 72 (Q253 x4))]⟩] [] (⟨Q249, [(2, .row 41 Q248), (3, .row 41 [(.int .i64 x1.1), (.int .i64 x2.1), (.int .i64 x3.1), (.int .i64 x4.1), (.slice 0 0 (fun _ => []) .exact), (.int .u64 (0 : Int))]), (30000, .row 72 (Q253 x4))]⟩ : St) [(Spec Tryz.prog 46 [(.ptr 30000 0)] [(30000, .row 72 (Q252 x3))] (.int .i64 x4.1) [(30000, .row 72 (Q253 x4))])] hn mix (hand_in hΓ rfl) (by kernel_rfl) ⟨(ok_code_reader_number x3.2 x4 hx4), trivial⟩ ?_
  obtain ⟨x5, hx5, h⟩ := bind_some h
  refine rgs [⟨[(30000, 30000)], [(20000, 17)], (AV.list 1 eI64 (0 : Int) x5.1 (.own 20000)), [(30000, .row 72 (Q254 x5)), (20000, .tok 1 3 x5.1.length)]⟩] [] (⟨Q249, [(2, .row 41 Q248), (3, .row 41 [(.int .i64 x1.1), (.int .i64 x2.1), (.int .i64 x3.1), (.int .i64 x4.1), (AV.list 1 eI64 (0 : Int) x5.1 (.own 17)), (.int .u64 (0 : Int))]), (17, .tok 1 3 x5.1.length), (30000, .row 72 (Q254 x5))]⟩ : St) [(Spec Tryz.prog 90 [(.ptr 30000 0)] [(30000, .row 72 (Q253 x4))] (AV.list 1 eI64 (0 : Int) x5.1 (.own 20000)) [(30000, .row 72 (Q254 x5)), (20000, .tok 1 3 x5.1.length)])] hn mix (hand_in hΓ rfl) (by kernel_rfl) ⟨(ok_code_reader_list x4.2 x5 hx5), trivial⟩ ?_
  obtain ⟨x6, hx6, h⟩ := bind_some h
  refine rgs [⟨[(30000, 30000)], [], (.int .u64 x6.1), [(30000, .row 72 (Q255 x6))]⟩] [] (⟨[(2, (.ptr 2 0)), (3, (.ptr 3 0))], [(2, .row 41 Q248), (3, .row 41 [(.int .i64 x1.1), (.int .i64 x2.1), (.int .i64 x3.1), (.int .i64 x4.1), (AV.list 1 eI64 (0 : Int) x5.1 (.own 17)), (.int .u64 x6.1)]), (17, .tok 1 3 x5.1.length), (30000, .row 72 (Q255 x6))]⟩ : St) [(Spec Tryz.prog 89 [(.ptr 30000 0)] [(30000, .row 72 (Q254 x5))] (.int .u64 x6.1) [(30000, .row 72 (Q255 x6))])] hn mix (hand_in hΓ rfl) (by kernel_rfl) ⟨(ok_code_reader_anyNumber x5.2 x6 hx6), trivial⟩ ?_
  refine rgs0 (⟨[(2, (.ptr 2 0))], [(2, .row 41 [(.int .i64 x1.1), (.int .i64 x2.1), (.int .i64 x3.1), (.int .i64 x4.1), (AV.list 1 eI64 (0 : Int) x5.1 (.own 17)), (.int .u64 x6.1)]), (17, .tok 1 3 x5.1.length), (30000, .row 72 (Q255 x6))]⟩ : St) hn mix (hand_in hΓ rfl) (by kernel_rfl) ?_
  refine awp_ret ?_
  obtain rfl := Option.some.inj h
  exact ⟨.inl rfl, [(30000, 30000)], by kernel_rfl⟩

noncomputable def m_code_many_api_Op_L1 (x3 : (Int × Treader2)) : (List (TOp) × Int × List (Int) × Int) → Option (LR (List (TOp) × Int × List (Int) × Int) ((List (TOp) × List (Int) × Int) ⊕ (List (Int) × Int))) :=
  fun ((l4, i5, l6, i7) : (List (TOp) × Int × List (Int) × Int)) => (bif (decide ((i5 : Int) < x3.1)) then ((m_code_reader_op (⟨l6, i7⟩ : Treader2)).bind fun x13 => (bif ((x13.2.code : Int) != (0 : Int)) then (some (.done (.inr (x13.2.rest, x13.2.code)))) else (chk (l4.length + ([(⟨x13.1.Kind, x13.1.Bits, x13.1.Lanes, x13.1.Dst, x13.1.Args, x13.1.Imm⟩ : TOp)] : List (TOp)).length ≤ room) (some (.next ((l4 ++ ([(⟨x13.1.Kind, x13.1.Bits, x13.1.Lanes, x13.1.Dst, x13.1.Args, x13.1.Imm⟩ : TOp)] : List (TOp))), (w64 (i5 + (1 : Int))), x13.2.rest, x13.2.code)))))) else (some (.done (.inl (l4, l6, i7)))))
noncomputable def m_code_many_api_Op_F2  : (List (Int) × Int) → Option (LR (List (Int) × Int) (List (TOp) × Treader2)) :=
  fun (s_ : (List (Int) × Int)) => match s_ with | (l1, i2) => (some (.done (([] : List TOp), (⟨l1, i2⟩ : Treader2))))
noncomputable def Q265 : AV := (.clo 76 [(.ptr 30000 0)] [])
noncomputable def Q258 : AV := (AV.list 6 eTOp (default : TOp) ([] : List TOp) .exact)
noncomputable def Q257 (x13 : (TOp × Treader2)) := ([(⟨x13.1.Kind, x13.1.Bits, x13.1.Lanes, x13.1.Dst, x13.1.Args, x13.1.Imm⟩ : TOp)] : List (TOp))
noncomputable def Q266 (l4 : List (TOp)) (x13 : (TOp × Treader2)) : AV := (AV.list 6 eTOp (default : TOp) (l4 ++ (Q257 x13)) (.own 5009))
noncomputable def Q262 (x3 : (Int × Treader2)) : List AV := [(AV.list 1 eU8 (0 : Int) x3.2.rest .none), (.int .i64 x3.2.code)]
noncomputable def Q260 (x13 : (TOp × Treader2)) : List AV := [(AV.list 1 eU8 (0 : Int) x13.2.rest .none), (.int .i64 x13.2.code)]
noncomputable def Q263 (a_w0 : Treader2) : List (Nat × Own) := [(30000, .row 72 [(AV.list 1 eU8 (0 : Int) a_w0.rest .none), (.int .i64 a_w0.code)])]
noncomputable def Q267 (x3 : (Int × Treader2)) := (⟨[(0, (.ptr 30000 0)), (3, Q265), (9, Q258), (14, (.int .i64 x3.1)), (15, (.int .i64 (0 : Int)))], [(30000, .row 72 (Q262 x3))]⟩ : St)
noncomputable def Q259 (x13 : (TOp × Treader2)) : List AV := [(.int .i64 x13.1.Kind), (.int .i64 x13.1.Bits), (.int .i64 x13.1.Lanes), (.int .i64 x13.1.Dst), (AV.list 1 eI64 (0 : Int) x13.1.Args .none), (.int .u64 x13.1.Imm)]
noncomputable def Q264 (l1 : List (Int)) (i2 : Int) := (⟨[(8, (AV.list 6 eTOp (default : TOp) ([] : List TOp) (.own 6008)))], [(6008, .tok 6 41 (([] : List TOp).length)), (30000, .row 72 [(AV.list 1 eU8 (0 : Int) l1 .none), (.int .i64 i2)])]⟩ : St)
noncomputable def Q261 (l4 : List (TOp)) (x3 : (Int × Treader2)) (i5 : Int) (l6 : List (Int)) (i7 : Int) := (⟨[(0, (.ptr 30000 0)), (3, Q265), (9, (AV.list 6 eTOp (default : TOp) l4 (.own 5009))), (14, (.int .i64 x3.1)), (15, (.int .i64 i5))], [(5009, .tok 6 41 l4.length), (30000, .row 72 [(AV.list 1 eU8 (0 : Int) l6 .none), (.int .i64 i7)])]⟩ : St)
noncomputable def m_code_many_api_Op (a_least : Int) (a_most : Int) (a_w0 : Treader2) : Option (List (TOp) × Treader2) :=
  ((scopeO (S := (List (Int) × Int)) (X := (List (TOp) × Treader2)) ((m_code_reader_within a_least a_most a_w0).bind fun x3 => ((loopO (S := (List (TOp) × Int × List (Int) × Int)) (X := ((List (TOp) × List (Int) × Int) ⊕ (List (Int) × Int))) (m_code_many_api_Op_L1 x3) (([] : List TOp), (0 : Int), x3.2.rest, x3.2.code)).bind (fun x15 => (match x15 with | (.inl (l8, l9, i10)) => (some (.done (l8, (⟨l9, i10⟩ : Treader2)))) | (.inr (l11, i12)) => (some (.next (l11, i12))))))) m_code_many_api_Op_F2).bind (fun x18 => ((some x18))))
theorem ok_code_many_api_Op (a_least : Int) (a_most : Int) (a_w0 : Treader2) (r : (List (TOp) × Treader2)) (h : m_code_many_api_Op a_least a_most a_w0 = some r) : Spec Tryz.prog 75 [(.ptr 30000 0), (.int .u64 a_least), (.int .u64 a_most), (.clo 76 [(.ptr 30000 0)] [])] [(30000, .row 72 [(AV.list 1 eU8 (0 : Int) a_w0.rest .none), (.int .i64 a_w0.code)])] (AV.list 6 eTOp (default : TOp) r.1 (.own 20000)) [(30000, .row 72 [(AV.list 1 eU8 (0 : Int) r.2.rest .none), (.int .i64 r.2.code)]), (20000, .tok 6 41 r.1.length)] := by
  refine spec_of_awp (fn := Tryz.f75) Tryz.func75 rfl rfl (by kernel_rfl) (fun Γ hn hΓ => ?_)
  have hn : Γ.n = 30 := hn
  unfold m_code_many_api_Op at h
  refine rgs [] [(8, Q258)] (⟨[(0, (.ptr 30000 0)), (1, (.int .u64 a_least)), (2, (.int .u64 a_most)), (3, Q265)], (Q263 a_w0)⟩ : St) [(AVle (.slice 0 0 (fun _ => []) .exact) Q258)] hn mix (hand_in hΓ rfl) (by kernel_rfl) ⟨av_nil, trivial⟩ ?_
  obtain ⟨x18, hx18, h⟩ := bind_some h
  refine awp_scope (S := (List (Int) × Int)) (X := (List (TOp) × Treader2)) (fun (s_ : (List (Int) × Int)) => match s_ with | (l1, i2) => 0) (fun (s_ : (List (Int) × Int)) => match s_ with | (l1, i2) => (⟨[], [(30000, .row 72 [(AV.list 1 eU8 (0 : Int) l1 .none), (.int .i64 i2)])]⟩ : St)) _ _ (fun (r_ : (List (TOp) × Treader2)) (e : Exit) (st : St) => e = .ret ∧ retK Tryz.prog Tryz.f75.results.toList (Q263 a_w0) (AV.list 6 eTOp (default : TOp) r_.1 (.own 20000)) [(30000, .row 72 [(AV.list 1 eU8 (0 : Int) r_.2.rest .none), (.int .i64 r_.2.code)]), (20000, .tok 6 41 r_.1.length)] e st) ?_ ?_ hx18 ?_
  · clear h hx18
    intro y h
    refine rgs [] [(9, Q258)] (⟨[(0, (.ptr 30000 0)), (1, (.int .u64 a_least)), (2, (.int .u64 a_most)), (3, Q265), (9, Q258)], (Q263 a_w0)⟩ : St) [(AVle (.slice 0 0 (fun _ => []) .exact) Q258)] hn mix (hand_in hΓ rfl) (by kernel_rfl) ⟨av_nil, trivial⟩ ?_
    refine awp_seq ?_
    obtain ⟨x3, hx3, h⟩ := bind_some h
    refine rgs [⟨[(30000, 30000)], [], (.int .i64 x3.1), [(30000, .row 72 (Q262 x3))]⟩] [] (Q267 x3) [(Spec Tryz.prog 72 [(.ptr 30000 0), (.int .u64 a_least), (.int .u64 a_most)] (Q263 a_w0) (.int .i64 x3.1) [(30000, .row 72 (Q262 x3))])] hn mix (hand_in hΓ rfl) (by kernel_rfl) ⟨(ok_code_reader_within a_least a_most a_w0 x3 hx3), trivial⟩ ?_
    refine awp_block ?_
    refine awp_le (st' := (fun ((l4, i5, l6, i7) : (List (TOp) × Int × List (Int) × Int)) => (Q261 l4 x3 i5 l6 i7)) (([] : List TOp), (0 : Int), x3.2.rest, x3.2.code)) (Le.trans (le_restrict_eq (st' := (Q267 x3)) [0, 3, 9, 14, 15] [30000] (by kernel_rfl) (hand_in hΓ rfl)) (Le.trans (le_tag (t := 9) (nm := 5009) (sz' := 6) (fun i => eTOp (([] : List TOp).getD i (default : TOp))) 41 rfl rfl (.inl ⟨rfl, rfl⟩) (fun h_ => absurd h_ (by decide))) (le_restrict_eq (st' := (⟨[(0, (.ptr 30000 0)), (3, Q265), (9, (AV.list 6 eTOp (default : TOp) ([] : List TOp) (.own 5009))), (14, (.int .i64 x3.1)), (15, (.int .i64 (0 : Int)))], [(5009, .tok 6 41 (([] : List TOp).length)), (30000, .row 72 (Q262 x3))]⟩ : St)) [0, 3, 9, 14, 15] [5009, 30000] (by kernel_rfl) (hand_in hΓ rfl)))) ?_
    obtain ⟨x15, hx15, h⟩ := bind_some h
    refine awp_loop (fun ((l4, i5, l6, i7) : (List (TOp) × Int × List (Int) × Int)) => (Q261 l4 x3 i5 l6 i7)) _ (fun (x_ : ((List (TOp) × List (Int) × Int) ⊕ (List (Int) × Int))) (e : Exit) (st : St) => match x_ with | (.inl (l8, l9, i10)) => e = (.exit 0) ∧ Le Γ st (⟨[(9, (AV.list 6 eTOp (default : TOp) l8 (.own 5009)))], [(5009, .tok 6 41 l8.length), (30000, .row 72 [(AV.list 1 eU8 (0 : Int) l9 .none), (.int .i64 i10)])]⟩ : St) | (.inr (l11, i12)) => e = (.goto 0) ∧ Le Γ st (⟨[], [(30000, .row 72 [(AV.list 1 eU8 (0 : Int) l11 .none), (.int .i64 i12)])]⟩ : St)) ?_ hx15 ?_
    · rintro ⟨l4, i5, l6, i7⟩ y h
      unfold m_code_many_api_Op_L1 at h
      refine rgs0 (⟨[(0, (.ptr 30000 0)), (3, Q265), (9, (AV.list 6 eTOp (default : TOp) l4 (.own 5009))), (14, (.int .i64 x3.1)), (15, (.int .i64 i5)), (16, (.bool (decide ((i5 : Int) < x3.1))))], [(5009, .tok 6 41 l4.length), (30000, .row 72 [(AV.list 1 eU8 (0 : Int) l6 .none), (.int .i64 i7)])]⟩ : St) hn mix (hand_in hΓ rfl) (by kernel_rfl) ?_
      refine awp_seq ?_
      refine awp_cond (decide ((i5 : Int) < x3.1)) (by kernel_rfl) (fun hb => ?_) (fun hb => ?_)
      · replace h := cond_t hb h
        clear hb
        refine awp_skip ?_
        refine then_normal ?_
        refine awp_seq ?_
        refine awp_block ?_
        obtain ⟨x13, hx13, h⟩ := bind_some h
        refine rgs [⟨[(30000, 30000)], [], (.agg (eTOp x13.1)), [(30000, .row 72 (Q260 x13))]⟩] [] (⟨[(0, (.ptr 30000 0)), (3, Q265), (9, (AV.list 6 eTOp (default : TOp) l4 (.own 5009))), (10, (.ptr 10 0)), (14, (.int .i64 x3.1)), (15, (.int .i64 i5))], [(10, .row 41 (Q259 x13)), (5009, .tok 6 41 l4.length), (30000, .row 72 (Q260 x13))]⟩ : St) [(Spec Tryz.prog 76 [(.ptr 30000 0)] [(30000, .row 72 [(AV.list 1 eU8 (0 : Int) l6 .none), (.int .i64 i7)])] (.agg (eTOp x13.1)) [(30000, .row 72 (Q260 x13))])] hn mix (hand_in hΓ rfl) (by kernel_rfl) ⟨(ok_code_reader_op (⟨l6, i7⟩ : Treader2) x13 hx13), trivial⟩ ?_
        refine awp_seq ?_
        refine rgs0 (⟨[(0, (.ptr 30000 0)), (3, Q265), (9, (AV.list 6 eTOp (default : TOp) l4 (.own 5009))), (10, (.ptr 10 0)), (14, (.int .i64 x3.1)), (15, (.int .i64 i5)), (23, (.bool ((x13.2.code : Int) != (0 : Int))))], [(10, .row 41 (Q259 x13)), (5009, .tok 6 41 l4.length), (30000, .row 72 (Q260 x13))]⟩ : St) hn mix (hand_in hΓ rfl) (by kernel_rfl) ?_
        refine awp_cond ((x13.2.code : Int) != (0 : Int)) (by kernel_rfl) (fun hb => ?_) (fun hb => ?_)
        · replace h := cond_t hb h
          clear hb
          refine awp_goto ?_
          refine then_goto ?_
          refine block_goto ?_
          refine then_goto ?_
          obtain rfl := Option.some.inj h
          exact ⟨(by intro hh; cases hh), rfl, le_restrict_eq [] [30000] (by kernel_rfl) (hand_in hΓ rfl)⟩
        · replace h := cond_f hb h
          clear hb
          refine awp_skip ?_
          refine then_normal ?_
          obtain ⟨hc14, h⟩ := chk_some h
          refine rg [] [(26, (AV.list 6 eTOp (default : TOp) (Q257 x13) .exact)), (27, (Q266 l4 x13))] (⟨[(0, (.ptr 30000 0)), (3, Q265), (9, (Q266 l4 x13)), (14, (.int .i64 x3.1)), (15, (.int .i64 i5))], [(5009, .tok 6 41 ((l4 ++ (Q257 x13)).length)), (30000, .row 72 (Q260 x13))]⟩ : St) [(AVle (.slice 6 1 (fun i => ([(Q259 x13)] : List (List AV)).getD i []) .exact) (AV.list 6 eTOp (default : TOp) (Q257 x13) .exact)), (l4.length = l4.length), (l4.length + (Q257 x13).length ≤ room), (AVle (.slice 6 (l4.length + (Q257 x13).length) (appF l4.length (fun i => eTOp (l4.getD i (default : TOp))) (fun i => eTOp ((Q257 x13).getD i (default : TOp)))) (.own 5009)) (Q266 l4 x13)), (l4.length + (Q257 x13).length = (l4 ++ (Q257 x13)).length)] hn mix (hand_in hΓ rfl) (by kernel_rfl) ⟨(av_lit rfl (fun i hi => map_get (e := eTOp) (d := (default : TOp)) (Q257 x13) i hi)), rfl, hc14, av_app, (len_app _ _), trivial⟩ ?_
          refine block_normal ?_
          refine then_normal ?_
          refine rg0 (⟨[(0, (.ptr 30000 0)), (3, Q265), (9, (Q266 l4 x13)), (14, (.int .i64 x3.1)), (15, (.int .i64 (w64 (i5 + (1 : Int)))))], [(5009, .tok 6 41 ((l4 ++ (Q257 x13)).length)), (30000, .row 72 (Q260 x13))]⟩ : St) hn mix (hand_in hΓ rfl) (by kernel_rfl) ?_
          obtain rfl := Option.some.inj h
          exact ⟨rfl, Le.refl _ _⟩
      · replace h := cond_f hb h
        clear hb
        refine awp_exit ?_
        refine then_exit ?_
        obtain rfl := Option.some.inj h
        exact ⟨(by intro hh; cases hh), rfl, le_restrict_eq [9] [5009, 30000] (by kernel_rfl) (hand_in hΓ rfl)⟩
    · clear hx15
      rcases x15 with ⟨l8, l9, i10⟩ | ⟨l11, i12⟩
      · rintro e st' ⟨rfl, hl16⟩
        refine block_here ?_
        refine then_normal ?_
        refine awp_le hl16 ?_
        refine awp_seq ?_
        refine rgs0 (⟨[(8, (AV.list 6 eTOp (default : TOp) l8 (.own 5009)))], [(5009, .tok 6 41 l8.length), (30000, .row 72 [(AV.list 1 eU8 (0 : Int) l9 .none), (.int .i64 i10)])]⟩ : St) hn mix (hand_in hΓ rfl) (by kernel_rfl) ?_
        refine awp_ret ?_
        refine then_ret ?_
        obtain rfl := Option.some.inj h
        exact ⟨(by intro l hh; cases hh), rfl, ⟨.inl rfl, [(30000, 30000), (5009, 20000)], by kernel_rfl⟩⟩
      · rintro e st' ⟨rfl, hl17⟩
        refine block_goto ?_
        refine then_goto ?_
        obtain rfl := Option.some.inj h
        exact ⟨rfl, rfl, Le.trans hl17 (Le.refl _ _)⟩
  · clear h hx18
    rintro ⟨l1, i2⟩ y rest hf h
    obtain rfl := Option.some.inj hf
    clear hf
    unfold m_code_many_api_Op_F2 at h
    refine awp_seq ?_
    refine awp_skip ?_
    refine then_normal ?_
    refine rgs [] [(8, Q258)] (⟨[(8, Q258)], [(30000, .row 72 [(AV.list 1 eU8 (0 : Int) l1 .none), (.int .i64 i2)])]⟩ : St) [(AVle (.slice 0 0 (fun _ => []) .exact) Q258)] hn mix (hand_in hΓ rfl) (by kernel_rfl) ⟨av_nil, trivial⟩ ?_
    refine awp_le (st' := (Q264 l1 i2)) (Le.trans (le_restrict_eq (st' := (⟨[(8, Q258)], [(30000, .row 72 [(AV.list 1 eU8 (0 : Int) l1 .none), (.int .i64 i2)])]⟩ : St)) [8] [30000] (by kernel_rfl) (hand_in hΓ rfl)) (Le.trans (le_tag (t := 8) (nm := 6008) (sz' := 6) (fun i => eTOp (([] : List TOp).getD i (default : TOp))) 41 rfl rfl (.inl ⟨rfl, rfl⟩) (fun h_ => absurd h_ (by decide))) (le_restrict_eq (st' := (Q264 l1 i2)) [8] [6008, 30000] (by kernel_rfl) (hand_in hΓ rfl)))) ?_
    refine awp_ret ?_
    obtain rfl := Option.some.inj h
    exact ⟨(by intro l hh; cases hh), rfl, ⟨.inl rfl, [(30000, 30000), (6008, 20000)], by kernel_rfl⟩⟩
  · clear hx18
    rintro e st' ⟨rfl, hk⟩
    obtain rfl := Option.some.inj h
    exact hk

noncomputable def Q269 (x1 : (Int × Treader2)) : List AV := [(AV.list 1 eU8 (0 : Int) x1.2.rest .none), (.int .i64 x1.2.code)]
noncomputable def Q270 (x2 : (Int × Treader2)) : List AV := [(AV.list 1 eU8 (0 : Int) x2.2.rest .none), (.int .i64 x2.2.code)]
noncomputable def Q271 (x3 : (List (Int) × Treader2)) : List AV := [(AV.list 1 eU8 (0 : Int) x3.2.rest .none), (.int .i64 x3.2.code)]
noncomputable def Q272 (a_w0 : Treader2) : List AV := [(AV.list 1 eU8 (0 : Int) a_w0.rest .none), (.int .i64 a_w0.code)]
noncomputable def Q268 : List AV := [(.int .i64 (0 : Int)), (.int .i64 (0 : Int)), (.slice 0 0 (fun _ => []) .exact)]
noncomputable def m_code_reader_end (a_w0 : Treader2) : Option (TEnd × Treader2) :=
  ((m_code_reader_number a_w0).bind fun x1 => ((m_code_reader_number x1.2).bind fun x2 => ((m_code_reader_list x2.2).bind fun x3 => (some ((⟨x1.1, x2.1, x3.1⟩ : TEnd), x3.2)))))
theorem ok_code_reader_end (a_w0 : Treader2) (r : (TEnd × Treader2)) (h : m_code_reader_end a_w0 = some r) : Spec Tryz.prog 77 [(.ptr 30000 0)] [(30000, .row 72 [(AV.list 1 eU8 (0 : Int) a_w0.rest .none), (.int .i64 a_w0.code)])] (.agg (eTEnd r.1)) [(30000, .row 72 [(AV.list 1 eU8 (0 : Int) r.2.rest .none), (.int .i64 r.2.code)])] := by
  refine spec_of_awp (fn := Tryz.f77) Tryz.func77 rfl rfl (by kernel_rfl) (fun Γ hn hΓ => ?_)
  have hn : Γ.n = 14 := hn
  unfold m_code_reader_end at h
  refine rgs0 (⟨[(0, (.ptr 30000 0)), (2, (.ptr 2 0))], [(2, .row 45 Q268), (30000, .row 72 (Q272 a_w0))]⟩ : St) hn mix (hand_in hΓ rfl) (by kernel_rfl) ?_
  refine rgs0 (⟨[(0, (.ptr 30000 0)), (2, (.ptr 2 0)), (3, (.ptr 3 0))], [(2, .row 45 Q268), (3, .row 45 Q268), (30000, .row 72 (Q272 a_w0))]⟩ : St) hn mix (hand_in hΓ rfl) (by kernel_rfl) ?_
  obtain ⟨x1, hx1, h⟩ := bind_some h
  refine rgs [⟨[(30000, 30000)], [], (.int .i64 x1.1), [(30000, .row 72 (Q269 x1))]⟩] [] (⟨[(0, (.ptr 30000 0)), (2, (.ptr 2 0)), (3, (.ptr 3 0))], [(2, .row 45 Q268), (3, .row 45 [(.int .i64 x1.1), (.int .i64 (0 : Int)), (.slice 0 0 (fun _ => []) .exact)]), (30000, .row 72 (Q269 x1))]⟩ : St) [(Spec Tryz.prog 46 [(.ptr 30000 0)] [(30000, .row 72 (Q272 a_w0))] (.int .i64 x1.1) [(30000, .row 72 (Q269 x1))])] hn mix (hand_in hΓ rfl) (by kernel_rfl) ⟨(ok_code_reader_number a_w0 x1 hx1), trivial⟩ ?_
  obtain ⟨x2, hx2, h⟩ := bind_some h
  refine rgs [⟨[(30000, 30000)], [], (.int .i64 x2.1), [(30000, .row 72 (Q270 x2))]⟩] [] (⟨[(0, (.ptr 30000 0)), (2, (.ptr 2 0)), (3, (.ptr 3 0))], [(2, .row 45 Q268), (3, .row 45 [(.int .i64 x1.1), (.int .i64 x2.1), (.slice 0 0 (fun _ => []) .exact)]), (30000, .row 72 (Q270 x2))]⟩ : St) [(Spec Tryz.prog 46 [(.ptr 30000 0)] [(30000, .row 72 (Q269 x1))] (.int .i64 x2.1) [(30000, .row 72 (Q270 x2))])] hn mix (hand_in hΓ rfl) (by kernel_rfl) ⟨(ok_code_reader_number x1.2 x2 hx2), trivial⟩ ?_
  obtain ⟨x3, hx3, h⟩ := bind_some h
  refine rgs [⟨[(30000, 30000)], [(20000, 11)], (AV.list 1 eI64 (0 : Int) x3.1 (.own 20000)), [(30000, .row 72 (Q271 x3)), (20000, .tok 1 3 x3.1.length)]⟩] [] (⟨[(2, (.ptr 2 0)), (3, (.ptr 3 0))], [(2, .row 45 Q268), (3, .row 45 [(.int .i64 x1.1), (.int .i64 x2.1), (AV.list 1 eI64 (0 : Int) x3.1 (.own 11))]), (11, .tok 1 3 x3.1.length), (30000, .row 72 (Q271 x3))]⟩ : St) [(Spec Tryz.prog 90 [(.ptr 30000 0)] [(30000, .row 72 (Q270 x2))] (AV.list 1 eI64 (0 : Int) x3.1 (.own 20000)) [(30000, .row 72 (Q271 x3)), (20000, .tok 1 3 x3.1.length)])] hn mix (hand_in hΓ rfl) (by kernel_rfl) ⟨(ok_code_reader_list x2.2 x3 hx3), trivial⟩ ?_
  refine rgs0 (⟨[(2, (.ptr 2 0))], [(2, .row 45 [(.int .i64 x1.1), (.int .i64 x2.1), (AV.list 1 eI64 (0 : Int) x3.1 (.own 11))]), (11, .tok 1 3 x3.1.length), (30000, .row 72 (Q271 x3))]⟩ : St) hn mix (hand_in hΓ rfl) (by kernel_rfl) ?_
  refine awp_ret ?_
  obtain rfl := Option.some.inj h
  exact ⟨.inl rfl, [(30000, 30000)], by kernel_rfl⟩

noncomputable def Q277 (x1 : (List (TPhi) × Treader2)) : AV := (AV.list 4 eTPhi (default : TPhi) x1.1 (.own 7))
noncomputable def Q274 (x1 : (List (TPhi) × Treader2)) : List AV := [(AV.list 1 eU8 (0 : Int) x1.2.rest .none), (.int .i64 x1.2.code)]
noncomputable def Q275 (x2 : (List (TOp) × Treader2)) : List AV := [(AV.list 1 eU8 (0 : Int) x2.2.rest .none), (.int .i64 x2.2.code)]
noncomputable def Q276 (x3 : (TEnd × Treader2)) : List AV := [(AV.list 1 eU8 (0 : Int) x3.2.rest .none), (.int .i64 x3.2.code)]
noncomputable def Q278 (a_w0 : Treader2) : List AV := [(AV.list 1 eU8 (0 : Int) a_w0.rest .none), (.int .i64 a_w0.code)]
noncomputable def Q273 : List AV := [(.slice 0 0 (fun _ => []) .exact), (.slice 0 0 (fun _ => []) .exact), (.int .i64 (0 : Int)), (.int .i64 (0 : Int)), (.slice 0 0 (fun _ => []) .exact)]
noncomputable def m_code_reader_block (a_w0 : Treader2) : Option (TBlock × Treader2) :=
  ((m_code_many_api_Phi (0 : Int) (512 : Int) a_w0).bind fun x1 => ((m_code_many_api_Op (0 : Int) (512 : Int) x1.2).bind fun x2 => ((m_code_reader_end x2.2).bind fun x3 => (some ((⟨x1.1, x2.1, x3.1⟩ : TBlock), x3.2)))))
theorem ok_code_reader_block (a_w0 : Treader2) (r : (TBlock × Treader2)) (h : m_code_reader_block a_w0 = some r) : Spec Tryz.prog 48 [(.ptr 30000 0)] [(30000, .row 72 [(AV.list 1 eU8 (0 : Int) a_w0.rest .none), (.int .i64 a_w0.code)])] (.agg (eTBlock r.1)) [(30000, .row 72 [(AV.list 1 eU8 (0 : Int) r.2.rest .none), (.int .i64 r.2.code)])] := by
  refine spec_of_awp (fn := Tryz.f48) Tryz.func48 rfl rfl (by kernel_rfl) (fun Γ hn hΓ => ?_)
  have hn : Γ.n = 18 := hn
  unfold m_code_reader_block at h
  refine rgs0 (⟨[(0, (.ptr 30000 0)), (2, (.ptr 2 0))], [(2, .row 47 Q273), (30000, .row 72 (Q278 a_w0))]⟩ : St) hn mix (hand_in hΓ rfl) (by kernel_rfl) ?_
  refine rgs0 (⟨[(0, (.ptr 30000 0)), (2, (.ptr 2 0)), (3, (.ptr 3 0))], [(2, .row 47 Q273), (3, .row 47 Q273), (30000, .row 72 (Q278 a_w0))]⟩ : St) hn mix (hand_in hΓ rfl) (by kernel_rfl) ?_
  obtain ⟨x1, hx1, h⟩ := bind_some h
  refine rgs [⟨[(30000, 30000)], [(20000, 7)], (AV.list 4 eTPhi (default : TPhi) x1.1 (.own 20000)), [(30000, .row 72 (Q274 x1)), (20000, .tok 4 49 x1.1.length)]⟩] [] (⟨[(0, (.ptr 30000 0)), (2, (.ptr 2 0)), (3, (.ptr 3 0))], [(2, .row 47 Q273), (3, .row 47 [(Q277 x1), (.slice 0 0 (fun _ => []) .exact), (.int .i64 (0 : Int)), (.int .i64 (0 : Int)), (.slice 0 0 (fun _ => []) .exact)]), (7, .tok 4 49 x1.1.length), (30000, .row 72 (Q274 x1))]⟩ : St) [(Spec Tryz.prog 73 [(.ptr 30000 0), (.int .u64 (0 : Int)), (.int .u64 (512 : Int)), (.clo 74 [(.ptr 30000 0)] [])] [(30000, .row 72 (Q278 a_w0))] (AV.list 4 eTPhi (default : TPhi) x1.1 (.own 20000)) [(30000, .row 72 (Q274 x1)), (20000, .tok 4 49 x1.1.length)])] hn mix (hand_in hΓ rfl) (by kernel_rfl) ⟨(ok_code_many_api_Phi (0 : Int) (512 : Int) a_w0 x1 hx1), trivial⟩ ?_
  obtain ⟨x2, hx2, h⟩ := bind_some h
  refine rgs [⟨[(30000, 30000)], [(20000, 12)], (AV.list 6 eTOp (default : TOp) x2.1 (.own 20000)), [(30000, .row 72 (Q275 x2)), (20000, .tok 6 41 x2.1.length)]⟩] [] (⟨[(0, (.ptr 30000 0)), (2, (.ptr 2 0)), (3, (.ptr 3 0))], [(2, .row 47 Q273), (3, .row 47 [(Q277 x1), (AV.list 6 eTOp (default : TOp) x2.1 (.own 12)), (.int .i64 (0 : Int)), (.int .i64 (0 : Int)), (.slice 0 0 (fun _ => []) .exact)]), (7, .tok 4 49 x1.1.length), (12, .tok 6 41 x2.1.length), (30000, .row 72 (Q275 x2))]⟩ : St) [(Spec Tryz.prog 75 [(.ptr 30000 0), (.int .u64 (0 : Int)), (.int .u64 (512 : Int)), (.clo 76 [(.ptr 30000 0)] [])] [(30000, .row 72 (Q274 x1))] (AV.list 6 eTOp (default : TOp) x2.1 (.own 20000)) [(30000, .row 72 (Q275 x2)), (20000, .tok 6 41 x2.1.length)])] hn mix (hand_in hΓ rfl) (by kernel_rfl) ⟨(ok_code_many_api_Op (0 : Int) (512 : Int) x1.2 x2 hx2), trivial⟩ ?_
  obtain ⟨x3, hx3, h⟩ := bind_some h
  refine rgs [⟨[(30000, 30000)], [], (.agg (eTEnd x3.1)), [(30000, .row 72 (Q276 x3))]⟩] [] (⟨[(2, (.ptr 2 0)), (3, (.ptr 3 0))], [(2, .row 47 Q273), (3, .row 47 [(Q277 x1), (AV.list 6 eTOp (default : TOp) x2.1 (.own 12)), (.int .i64 x3.1.Kind), (.int .i64 x3.1.Arg), (AV.list 1 eI64 (0 : Int) x3.1.To .none)]), (7, .tok 4 49 x1.1.length), (12, .tok 6 41 x2.1.length), (30000, .row 72 (Q276 x3))]⟩ : St) [(Spec Tryz.prog 77 [(.ptr 30000 0)] [(30000, .row 72 (Q275 x2))] (.agg (eTEnd x3.1)) [(30000, .row 72 (Q276 x3))])] hn mix (hand_in hΓ rfl) (by kernel_rfl) ⟨(ok_code_reader_end x2.2 x3 hx3), trivial⟩ ?_
  refine rgs0 (⟨[(2, (.ptr 2 0))], [(2, .row 47 [(Q277 x1), (AV.list 6 eTOp (default : TOp) x2.1 (.own 12)), (.int .i64 x3.1.Kind), (.int .i64 x3.1.Arg), (AV.list 1 eI64 (0 : Int) x3.1.To .none)]), (7, .tok 4 49 x1.1.length), (12, .tok 6 41 x2.1.length), (30000, .row 72 (Q276 x3))]⟩ : St) hn mix (hand_in hΓ rfl) (by kernel_rfl) ?_
  refine awp_ret ?_
  obtain rfl := Option.some.inj h
  exact ⟨.inl rfl, [(30000, 30000)], by kernel_rfl⟩

noncomputable def m_code_many_api_Block_L1 (x3 : (Int × Treader2)) : (List (TBlock) × Int × List (Int) × Int) → Option (LR (List (TBlock) × Int × List (Int) × Int) ((List (TBlock) × List (Int) × Int) ⊕ (List (Int) × Int))) :=
  fun ((l4, i5, l6, i7) : (List (TBlock) × Int × List (Int) × Int)) => (bif (decide ((i5 : Int) < x3.1)) then ((m_code_reader_block (⟨l6, i7⟩ : Treader2)).bind fun x13 => (bif ((x13.2.code : Int) != (0 : Int)) then (some (.done (.inr (x13.2.rest, x13.2.code)))) else (chk (l4.length + ([(⟨x13.1.Phis, x13.1.Ops, (⟨x13.1.End.Kind, x13.1.End.Arg, x13.1.End.To⟩ : TEnd)⟩ : TBlock)] : List (TBlock)).length ≤ room) (some (.next ((l4 ++ ([(⟨x13.1.Phis, x13.1.Ops, (⟨x13.1.End.Kind, x13.1.End.Arg, x13.1.End.To⟩ : TEnd)⟩ : TBlock)] : List (TBlock))), (w64 (i5 + (1 : Int))), x13.2.rest, x13.2.code)))))) else (some (.done (.inl (l4, l6, i7)))))
noncomputable def m_code_many_api_Block_F2  : (List (Int) × Int) → Option (LR (List (Int) × Int) (List (TBlock) × Treader2)) :=
  fun (s_ : (List (Int) × Int)) => match s_ with | (l1, i2) => (some (.done (([] : List TBlock), (⟨l1, i2⟩ : Treader2))))
noncomputable def Q289 := (default : TBlock)
noncomputable def Q287 : AV := (.clo 48 [(.ptr 30000 0)] [])
noncomputable def Q280 : AV := (AV.list 5 eTBlock Q289 ([] : List TBlock) .exact)
noncomputable def Q284 (x3 : (Int × Treader2)) : List AV := [(AV.list 1 eU8 (0 : Int) x3.2.rest .none), (.int .i64 x3.2.code)]
noncomputable def Q282 (x13 : (TBlock × Treader2)) : List AV := [(AV.list 1 eU8 (0 : Int) x13.2.rest .none), (.int .i64 x13.2.code)]
noncomputable def Q279 (x13 : (TBlock × Treader2)) := ([(⟨x13.1.Phis, x13.1.Ops, (⟨x13.1.End.Kind, x13.1.End.Arg, x13.1.End.To⟩ : TEnd)⟩ : TBlock)] : List (TBlock))
noncomputable def Q288 (l4 : List (TBlock)) (x13 : (TBlock × Treader2)) : AV := (AV.list 5 eTBlock Q289 (l4 ++ (Q279 x13)) (.own 5009))
noncomputable def Q285 (a_w0 : Treader2) : List (Nat × Own) := [(30000, .row 72 [(AV.list 1 eU8 (0 : Int) a_w0.rest .none), (.int .i64 a_w0.code)])]
noncomputable def Q290 (x3 : (Int × Treader2)) := (⟨[(0, (.ptr 30000 0)), (3, Q287), (9, Q280), (14, (.int .i64 x3.1)), (15, (.int .i64 (0 : Int)))], [(30000, .row 72 (Q284 x3))]⟩ : St)
noncomputable def Q281 (x13 : (TBlock × Treader2)) : List AV := [(AV.list 4 eTPhi (default : TPhi) x13.1.Phis .none), (AV.list 6 eTOp (default : TOp) x13.1.Ops .none), (.int .i64 x13.1.End.Kind), (.int .i64 x13.1.End.Arg), (AV.list 1 eI64 (0 : Int) x13.1.End.To .none)]
noncomputable def Q286 (l1 : List (Int)) (i2 : Int) := (⟨[(8, (AV.list 5 eTBlock Q289 ([] : List TBlock) (.own 6008)))], [(6008, .tok 5 47 (([] : List TBlock).length)), (30000, .row 72 [(AV.list 1 eU8 (0 : Int) l1 .none), (.int .i64 i2)])]⟩ : St)
noncomputable def Q283 (l4 : List (TBlock)) (x3 : (Int × Treader2)) (i5 : Int) (l6 : List (Int)) (i7 : Int) := (⟨[(0, (.ptr 30000 0)), (3, Q287), (9, (AV.list 5 eTBlock Q289 l4 (.own 5009))), (14, (.int .i64 x3.1)), (15, (.int .i64 i5))], [(5009, .tok 5 47 l4.length), (30000, .row 72 [(AV.list 1 eU8 (0 : Int) l6 .none), (.int .i64 i7)])]⟩ : St)
noncomputable def m_code_many_api_Block (a_least : Int) (a_most : Int) (a_w0 : Treader2) : Option (List (TBlock) × Treader2) :=
  ((scopeO (S := (List (Int) × Int)) (X := (List (TBlock) × Treader2)) ((m_code_reader_within a_least a_most a_w0).bind fun x3 => ((loopO (S := (List (TBlock) × Int × List (Int) × Int)) (X := ((List (TBlock) × List (Int) × Int) ⊕ (List (Int) × Int))) (m_code_many_api_Block_L1 x3) (([] : List TBlock), (0 : Int), x3.2.rest, x3.2.code)).bind (fun x15 => (match x15 with | (.inl (l8, l9, i10)) => (some (.done (l8, (⟨l9, i10⟩ : Treader2)))) | (.inr (l11, i12)) => (some (.next (l11, i12))))))) m_code_many_api_Block_F2).bind (fun x18 => ((some x18))))
theorem ok_code_many_api_Block (a_least : Int) (a_most : Int) (a_w0 : Treader2) (r : (List (TBlock) × Treader2)) (h : m_code_many_api_Block a_least a_most a_w0 = some r) : Spec Tryz.prog 47 [(.ptr 30000 0), (.int .u64 a_least), (.int .u64 a_most), (.clo 48 [(.ptr 30000 0)] [])] [(30000, .row 72 [(AV.list 1 eU8 (0 : Int) a_w0.rest .none), (.int .i64 a_w0.code)])] (AV.list 5 eTBlock (default : TBlock) r.1 (.own 20000)) [(30000, .row 72 [(AV.list 1 eU8 (0 : Int) r.2.rest .none), (.int .i64 r.2.code)]), (20000, .tok 5 47 r.1.length)] := by
  refine spec_of_awp (fn := Tryz.f47) Tryz.func47 rfl rfl (by kernel_rfl) (fun Γ hn hΓ => ?_)
  have hn : Γ.n = 30 := hn
  unfold m_code_many_api_Block at h
  refine rgs [] [(8, Q280)] (⟨[(0, (.ptr 30000 0)), (1, (.int .u64 a_least)), (2, (.int .u64 a_most)), (3, Q287)], (Q285 a_w0)⟩ : St) [(AVle (.slice 0 0 (fun _ => []) .exact) Q280)] hn mix (hand_in hΓ rfl) (by kernel_rfl) ⟨av_nil, trivial⟩ ?_
  obtain ⟨x18, hx18, h⟩ := bind_some h
  refine awp_scope (S := (List (Int) × Int)) (X := (List (TBlock) × Treader2)) (fun (s_ : (List (Int) × Int)) => match s_ with | (l1, i2) => 0) (fun (s_ : (List (Int) × Int)) => match s_ with | (l1, i2) => (⟨[], [(30000, .row 72 [(AV.list 1 eU8 (0 : Int) l1 .none), (.int .i64 i2)])]⟩ : St)) _ _ (fun (r_ : (List (TBlock) × Treader2)) (e : Exit) (st : St) => e = .ret ∧ retK Tryz.prog Tryz.f47.results.toList (Q285 a_w0) (AV.list 5 eTBlock Q289 r_.1 (.own 20000)) [(30000, .row 72 [(AV.list 1 eU8 (0 : Int) r_.2.rest .none), (.int .i64 r_.2.code)]), (20000, .tok 5 47 r_.1.length)] e st) ?_ ?_ hx18 ?_
  · clear h hx18
    intro y h
    refine rgs [] [(9, Q280)] (⟨[(0, (.ptr 30000 0)), (1, (.int .u64 a_least)), (2, (.int .u64 a_most)), (3, Q287), (9, Q280)], (Q285 a_w0)⟩ : St) [(AVle (.slice 0 0 (fun _ => []) .exact) Q280)] hn mix (hand_in hΓ rfl) (by kernel_rfl) ⟨av_nil, trivial⟩ ?_
    refine awp_seq ?_
    obtain ⟨x3, hx3, h⟩ := bind_some h
    refine rgs [⟨[(30000, 30000)], [], (.int .i64 x3.1), [(30000, .row 72 (Q284 x3))]⟩] [] (Q290 x3) [(Spec Tryz.prog 72 [(.ptr 30000 0), (.int .u64 a_least), (.int .u64 a_most)] (Q285 a_w0) (.int .i64 x3.1) [(30000, .row 72 (Q284 x3))])] hn mix (hand_in hΓ rfl) (by kernel_rfl) ⟨(ok_code_reader_within a_least a_most a_w0 x3 hx3), trivial⟩ ?_
    refine awp_block ?_
    refine awp_le (st' := (fun ((l4, i5, l6, i7) : (List (TBlock) × Int × List (Int) × Int)) => (Q283 l4 x3 i5 l6 i7)) (([] : List TBlock), (0 : Int), x3.2.rest, x3.2.code)) (Le.trans (le_restrict_eq (st' := (Q290 x3)) [0, 3, 9, 14, 15] [30000] (by kernel_rfl) (hand_in hΓ rfl)) (Le.trans (le_tag (t := 9) (nm := 5009) (sz' := 5) (fun i => eTBlock (([] : List TBlock).getD i Q289)) 47 rfl rfl (.inl ⟨rfl, rfl⟩) (fun h_ => absurd h_ (by decide))) (le_restrict_eq (st' := (⟨[(0, (.ptr 30000 0)), (3, Q287), (9, (AV.list 5 eTBlock Q289 ([] : List TBlock) (.own 5009))), (14, (.int .i64 x3.1)), (15, (.int .i64 (0 : Int)))], [(5009, .tok 5 47 (([] : List TBlock).length)), (30000, .row 72 (Q284 x3))]⟩ : St)) [0, 3, 9, 14, 15] [5009, 30000] (by kernel_rfl) (hand_in hΓ rfl)))) ?_
    obtain ⟨x15, hx15, h⟩ := bind_some h
    refine awp_loop (fun ((l4, i5, l6, i7) : (List (TBlock) × Int × List (Int) × Int)) => (Q283 l4 x3 i5 l6 i7)) _ (fun (x_ : ((List (TBlock) × List (Int) × Int) ⊕ (List (Int) × Int))) (e : Exit) (st : St) => match x_ with | (.inl (l8, l9, i10)) => e = (.exit 0) ∧ Le Γ st (⟨[(9, (AV.list 5 eTBlock Q289 l8 (.own 5009)))], [(5009, .tok 5 47 l8.length), (30000, .row 72 [(AV.list 1 eU8 (0 : Int) l9 .none), (.int .i64 i10)])]⟩ : St) | (.inr (l11, i12)) => e = (.goto 0) ∧ Le Γ st (⟨[], [(30000, .row 72 [(AV.list 1 eU8 (0 : Int) l11 .none), (.int .i64 i12)])]⟩ : St)) ?_ hx15 ?_
    · rintro ⟨l4, i5, l6, i7⟩ y h
      unfold m_code_many_api_Block_L1 at h
      refine rgs0 (⟨[(0, (.ptr 30000 0)), (3, Q287), (9, (AV.list 5 eTBlock Q289 l4 (.own 5009))), (14, (.int .i64 x3.1)), (15, (.int .i64 i5)), (16, (.bool (decide ((i5 : Int) < x3.1))))], [(5009, .tok 5 47 l4.length), (30000, .row 72 [(AV.list 1 eU8 (0 : Int) l6 .none), (.int .i64 i7)])]⟩ : St) hn mix (hand_in hΓ rfl) (by kernel_rfl) ?_
      refine awp_seq ?_
      refine awp_cond (decide ((i5 : Int) < x3.1)) (by kernel_rfl) (fun hb => ?_) (fun hb => ?_)
      · replace h := cond_t hb h
        clear hb
        refine awp_skip ?_
        refine then_normal ?_
        refine awp_seq ?_
        refine awp_block ?_
        obtain ⟨x13, hx13, h⟩ := bind_some h
        refine rgs [⟨[(30000, 30000)], [], (.agg (eTBlock x13.1)), [(30000, .row 72 (Q282 x13))]⟩] [] (⟨[(0, (.ptr 30000 0)), (3, Q287), (9, (AV.list 5 eTBlock Q289 l4 (.own 5009))), (10, (.ptr 10 0)), (14, (.int .i64 x3.1)), (15, (.int .i64 i5))], [(10, .row 47 (Q281 x13)), (5009, .tok 5 47 l4.length), (30000, .row 72 (Q282 x13))]⟩ : St) [(Spec Tryz.prog 48 [(.ptr 30000 0)] [(30000, .row 72 [(AV.list 1 eU8 (0 : Int) l6 .none), (.int .i64 i7)])] (.agg (eTBlock x13.1)) [(30000, .row 72 (Q282 x13))])] hn mix (hand_in hΓ rfl) (by kernel_rfl) ⟨(ok_code_reader_block (⟨l6, i7⟩ : Treader2) x13 hx13), trivial⟩ ?_
        refine awp_seq ?_
        refine rgs0 (⟨[(0, (.ptr 30000 0)), (3, Q287), (9, (AV.list 5 eTBlock Q289 l4 (.own 5009))), (10, (.ptr 10 0)), (14, (.int .i64 x3.1)), (15, (.int .i64 i5)), (23, (.bool ((x13.2.code : Int) != (0 : Int))))], [(10, .row 47 (Q281 x13)), (5009, .tok 5 47 l4.length), (30000, .row 72 (Q282 x13))]⟩ : St) hn mix (hand_in hΓ rfl) (by kernel_rfl) ?_
        refine awp_cond ((x13.2.code : Int) != (0 : Int)) (by kernel_rfl) (fun hb => ?_) (fun hb => ?_)
        · replace h := cond_t hb h
          clear hb
          refine awp_goto ?_
          refine then_goto ?_
          refine block_goto ?_
          refine then_goto ?_
          obtain rfl := Option.some.inj h
          exact ⟨(by intro hh; cases hh), rfl, le_restrict_eq [] [30000] (by kernel_rfl) (hand_in hΓ rfl)⟩
        · replace h := cond_f hb h
          clear hb
          refine awp_skip ?_
          refine then_normal ?_
          obtain ⟨hc14, h⟩ := chk_some h
          refine rg [] [(26, (AV.list 5 eTBlock Q289 (Q279 x13) .exact)), (27, (Q288 l4 x13))] (⟨[(0, (.ptr 30000 0)), (3, Q287), (9, (Q288 l4 x13)), (14, (.int .i64 x3.1)), (15, (.int .i64 i5))], [(5009, .tok 5 47 ((l4 ++ (Q279 x13)).length)), (30000, .row 72 (Q282 x13))]⟩ : St) [(AVle (.slice 5 1 (fun i => ([(Q281 x13)] : List (List AV)).getD i []) .exact) (AV.list 5 eTBlock Q289 (Q279 x13) .exact)), (l4.length = l4.length), (l4.length + (Q279 x13).length ≤ room), (AVle (.slice 5 (l4.length + (Q279 x13).length) (appF l4.length (fun i => eTBlock (l4.getD i Q289)) (fun i => eTBlock ((Q279 x13).getD i Q289))) (.own 5009)) (Q288 l4 x13)), (l4.length + (Q279 x13).length = (l4 ++ (Q279 x13)).length)] hn mix (hand_in hΓ rfl) (by kernel_rfl) ⟨(av_lit rfl (fun i hi => map_get (e := eTBlock) (d := Q289) (Q279 x13) i hi)), rfl, hc14, av_app, (len_app _ _), trivial⟩ ?_
          refine block_normal ?_
          refine then_normal ?_
          refine rg0 (⟨[(0, (.ptr 30000 0)), (3, Q287), (9, (Q288 l4 x13)), (14, (.int .i64 x3.1)), (15, (.int .i64 (w64 (i5 + (1 : Int)))))], [(5009, .tok 5 47 ((l4 ++ (Q279 x13)).length)), (30000, .row 72 (Q282 x13))]⟩ : St) hn mix (hand_in hΓ rfl) (by kernel_rfl) ?_
          obtain rfl := Option.some.inj h
          exact ⟨rfl, Le.refl _ _⟩
      · replace h := cond_f hb h
        clear hb
        refine awp_exit ?_
        refine then_exit ?_
        obtain rfl := Option.some.inj h
        exact ⟨(by intro hh; cases hh), rfl, le_restrict_eq [9] [5009, 30000] (by kernel_rfl) (hand_in hΓ rfl)⟩
    · clear hx15
      rcases x15 with ⟨l8, l9, i10⟩ | ⟨l11, i12⟩
      · rintro e st' ⟨rfl, hl16⟩
        refine block_here ?_
        refine then_normal ?_
        refine awp_le hl16 ?_
        refine awp_seq ?_
        refine rgs0 (⟨[(8, (AV.list 5 eTBlock Q289 l8 (.own 5009)))], [(5009, .tok 5 47 l8.length), (30000, .row 72 [(AV.list 1 eU8 (0 : Int) l9 .none), (.int .i64 i10)])]⟩ : St) hn mix (hand_in hΓ rfl) (by kernel_rfl) ?_
        refine awp_ret ?_
        refine then_ret ?_
        obtain rfl := Option.some.inj h
        exact ⟨(by intro l hh; cases hh), rfl, ⟨.inl rfl, [(30000, 30000), (5009, 20000)], by kernel_rfl⟩⟩
      · rintro e st' ⟨rfl, hl17⟩
        refine block_goto ?_
        refine then_goto ?_
        obtain rfl := Option.some.inj h
        exact ⟨rfl, rfl, Le.trans hl17 (Le.refl _ _)⟩
  · clear h hx18
    rintro ⟨l1, i2⟩ y rest hf h
    obtain rfl := Option.some.inj hf
    clear hf
    unfold m_code_many_api_Block_F2 at h
    refine awp_seq ?_
    refine awp_skip ?_
    refine then_normal ?_
    refine rgs [] [(8, Q280)] (⟨[(8, Q280)], [(30000, .row 72 [(AV.list 1 eU8 (0 : Int) l1 .none), (.int .i64 i2)])]⟩ : St) [(AVle (.slice 0 0 (fun _ => []) .exact) Q280)] hn mix (hand_in hΓ rfl) (by kernel_rfl) ⟨av_nil, trivial⟩ ?_
    refine awp_le (st' := (Q286 l1 i2)) (Le.trans (le_restrict_eq (st' := (⟨[(8, Q280)], [(30000, .row 72 [(AV.list 1 eU8 (0 : Int) l1 .none), (.int .i64 i2)])]⟩ : St)) [8] [30000] (by kernel_rfl) (hand_in hΓ rfl)) (Le.trans (le_tag (t := 8) (nm := 6008) (sz' := 5) (fun i => eTBlock (([] : List TBlock).getD i Q289)) 47 rfl rfl (.inl ⟨rfl, rfl⟩) (fun h_ => absurd h_ (by decide))) (le_restrict_eq (st' := (Q286 l1 i2)) [8] [6008, 30000] (by kernel_rfl) (hand_in hΓ rfl)))) ?_
    refine awp_ret ?_
    obtain rfl := Option.some.inj h
    exact ⟨(by intro l hh; cases hh), rfl, ⟨.inl rfl, [(30000, 30000), (6008, 20000)], by kernel_rfl⟩⟩
  · clear hx18
    rintro e st' ⟨rfl, hk⟩
    obtain rfl := Option.some.inj h
    exact hk

noncomputable def Q292 (x1 : (List (Int) × Treader2)) : List AV := [(AV.list 1 eU8 (0 : Int) x1.2.rest .none), (.int .i64 x1.2.code)]
noncomputable def Q293 (x2 : (Int × Treader2)) : List AV := [(AV.list 1 eU8 (0 : Int) x2.2.rest .none), (.int .i64 x2.2.code)]
noncomputable def Q294 (x3 : (List (TBlock) × Treader2)) : List AV := [(AV.list 1 eU8 (0 : Int) x3.2.rest .none), (.int .i64 x3.2.code)]
noncomputable def Q295 (a_w0 : Treader2) : List AV := [(AV.list 1 eU8 (0 : Int) a_w0.rest .none), (.int .i64 a_w0.code)]
noncomputable def Q291 : List AV := [(.slice 0 0 (fun _ => []) .exact), (.int .i64 (0 : Int)), (.slice 0 0 (fun _ => []) .exact)]
noncomputable def m_code_reader_function (a_w0 : Treader2) : Option (TFunc × Treader2) :=
  ((m_code_many_int (0 : Int) (16 : Int) a_w0).bind fun x1 => ((m_code_reader_number x1.2).bind fun x2 => ((m_code_many_api_Block (1 : Int) (64 : Int) x2.2).bind fun x3 => (some ((⟨x1.1, x2.1, x3.1⟩ : TFunc), x3.2)))))
theorem ok_code_reader_function (a_w0 : Treader2) (r : (TFunc × Treader2)) (h : m_code_reader_function a_w0 = some r) : Spec Tryz.prog 26 [(.ptr 30000 0)] [(30000, .row 72 [(AV.list 1 eU8 (0 : Int) a_w0.rest .none), (.int .i64 a_w0.code)])] (.agg (eTFunc r.1)) [(30000, .row 72 [(AV.list 1 eU8 (0 : Int) r.2.rest .none), (.int .i64 r.2.code)])] := by
  refine spec_of_awp (fn := Tryz.f26) Tryz.func26 rfl rfl (by kernel_rfl) (fun Γ hn hΓ => ?_)
  have hn : Γ.n = 18 := hn
  unfold m_code_reader_function at h
  refine rgs0 (⟨[(0, (.ptr 30000 0)), (2, (.ptr 2 0))], [(2, .row 25 Q291), (30000, .row 72 (Q295 a_w0))]⟩ : St) hn mix (hand_in hΓ rfl) (by kernel_rfl) ?_
  refine rgs0 (⟨[(0, (.ptr 30000 0)), (2, (.ptr 2 0)), (3, (.ptr 3 0))], [(2, .row 25 Q291), (3, .row 25 Q291), (30000, .row 72 (Q295 a_w0))]⟩ : St) hn mix (hand_in hΓ rfl) (by kernel_rfl) ?_
  obtain ⟨x1, hx1, h⟩ := bind_some h
  refine rgs [⟨[(30000, 30000)], [(20000, 7)], (AV.list 1 eI64 (0 : Int) x1.1 (.own 20000)), [(30000, .row 72 (Q292 x1)), (20000, .tok 1 3 x1.1.length)]⟩] [] (⟨[(0, (.ptr 30000 0)), (2, (.ptr 2 0)), (3, (.ptr 3 0))], [(2, .row 25 Q291), (3, .row 25 [(AV.list 1 eI64 (0 : Int) x1.1 (.own 7)), (.int .i64 (0 : Int)), (.slice 0 0 (fun _ => []) .exact)]), (7, .tok 1 3 x1.1.length), (30000, .row 72 (Q292 x1))]⟩ : St) [(Spec Tryz.prog 45 [(.ptr 30000 0), (.int .u64 (0 : Int)), (.int .u64 (16 : Int)), (.clo 46 [(.ptr 30000 0)] [])] [(30000, .row 72 (Q295 a_w0))] (AV.list 1 eI64 (0 : Int) x1.1 (.own 20000)) [(30000, .row 72 (Q292 x1)), (20000, .tok 1 3 x1.1.length)])] hn mix (hand_in hΓ rfl) (by kernel_rfl) ⟨(ok_code_many_int (0 : Int) (16 : Int) a_w0 x1 hx1), trivial⟩ ?_
  obtain ⟨x2, hx2, h⟩ := bind_some h
  refine rgs [⟨[(30000, 30000)], [], (.int .i64 x2.1), [(30000, .row 72 (Q293 x2))]⟩] [] (⟨[(0, (.ptr 30000 0)), (2, (.ptr 2 0)), (3, (.ptr 3 0))], [(2, .row 25 Q291), (3, .row 25 [(AV.list 1 eI64 (0 : Int) x1.1 (.own 7)), (.int .i64 x2.1), (.slice 0 0 (fun _ => []) .exact)]), (7, .tok 1 3 x1.1.length), (30000, .row 72 (Q293 x2))]⟩ : St) [(Spec Tryz.prog 46 [(.ptr 30000 0)] [(30000, .row 72 (Q292 x1))] (.int .i64 x2.1) [(30000, .row 72 (Q293 x2))])] hn mix (hand_in hΓ rfl) (by kernel_rfl) ⟨(ok_code_reader_number x1.2 x2 hx2), trivial⟩ ?_
  obtain ⟨x3, hx3, h⟩ := bind_some h
  refine rgs [⟨[(30000, 30000)], [(20000, 15)], (AV.list 5 eTBlock (default : TBlock) x3.1 (.own 20000)), [(30000, .row 72 (Q294 x3)), (20000, .tok 5 47 x3.1.length)]⟩] [] (⟨[(2, (.ptr 2 0)), (3, (.ptr 3 0))], [(2, .row 25 Q291), (3, .row 25 [(AV.list 1 eI64 (0 : Int) x1.1 (.own 7)), (.int .i64 x2.1), (AV.list 5 eTBlock (default : TBlock) x3.1 (.own 15))]), (7, .tok 1 3 x1.1.length), (15, .tok 5 47 x3.1.length), (30000, .row 72 (Q294 x3))]⟩ : St) [(Spec Tryz.prog 47 [(.ptr 30000 0), (.int .u64 (1 : Int)), (.int .u64 (64 : Int)), (.clo 48 [(.ptr 30000 0)] [])] [(30000, .row 72 (Q293 x2))] (AV.list 5 eTBlock (default : TBlock) x3.1 (.own 20000)) [(30000, .row 72 (Q294 x3)), (20000, .tok 5 47 x3.1.length)])] hn mix (hand_in hΓ rfl) (by kernel_rfl) ⟨(ok_code_many_api_Block (1 : Int) (64 : Int) x2.2 x3 hx3), trivial⟩ ?_
  refine rgs0 (⟨[(2, (.ptr 2 0))], [(2, .row 25 [(AV.list 1 eI64 (0 : Int) x1.1 (.own 7)), (.int .i64 x2.1), (AV.list 5 eTBlock (default : TBlock) x3.1 (.own 15))]), (7, .tok 1 3 x1.1.length), (15, .tok 5 47 x3.1.length), (30000, .row 72 (Q294 x3))]⟩ : St) hn mix (hand_in hΓ rfl) (by kernel_rfl) ?_
  refine awp_ret ?_
  obtain rfl := Option.some.inj h
  exact ⟨.inl rfl, [(30000, 30000)], by kernel_rfl⟩

noncomputable def m_code_Decode_F1  : (List (Int) × Int) → Option (LR (List (Int) × Int) (TFunc × Int)) :=
  fun (s_ : (List (Int) × Int)) => match s_ with | (l1, i2) => (some (.done ((⟨([] : List Int), (0 : Int), ([] : List TBlock)⟩ : TFunc), i2)))
noncomputable def Q298 : List AV := [(.slice 0 0 (fun _ => []) .exact), (.int .i64 (0 : Int)), (.slice 0 0 (fun _ => []) .exact)]
noncomputable def Q297 : List AV := [(AV.list 1 eI64 (0 : Int) ([] : List Int) .exact), (.int .i64 (0 : Int)), (AV.list 5 eTBlock (default : TBlock) ([] : List TBlock) .exact)]
noncomputable def Q296 (x3 : (TFunc × Treader2)) : List (Nat × Own) := [(2, .row 25 Q298), (5, .row 25 [(AV.list 1 eI64 (0 : Int) x3.1.Params .none), (.int .i64 x3.1.Ret), (AV.list 5 eTBlock (default : TBlock) x3.1.Blocks .none)]), (8, .row 72 [(AV.list 1 eU8 (0 : Int) x3.2.rest .none), (.int .i64 x3.2.code)])]
noncomputable def m_code_Decode (a_b : List (Int)) : Option (TFunc × Int) :=
  ((scopeO (S := (List (Int) × Int)) (X := (TFunc × Int)) ((m_code_reader_function (⟨a_b, (0 : Int)⟩ : Treader2)).bind fun x3 => (bif ((x3.2.code : Int) != (0 : Int)) then (some (.next (x3.2.rest, x3.2.code))) else (bif (decide (((0 : Int) : Int) < (x3.2.rest.length : Int))) then (some (.next (x3.2.rest, (3 : Int)))) else ((m_code_Size x3.1).bind fun x4 => (bif (decide (((512 : Int) : Int) < x4)) then (some (.next (x3.2.rest, (4 : Int)))) else (some (.done (x3.1, (0 : Int))))))))) m_code_Decode_F1).bind (fun x5 => ((some x5))))
theorem ok_code_Decode (a_b : List (Int)) (r : (TFunc × Int)) (h : m_code_Decode a_b = some r) : Spec Tryz.prog 9 [(AV.list 1 eU8 (0 : Int) a_b .none)] [] (.tuple [(.agg (eTFunc r.1)), (.int .i64 r.2)]) [] := by
  refine spec_of_awp (fn := Tryz.f9) Tryz.func9 rfl rfl (by kernel_rfl) (fun Γ hn hΓ => ?_)
  have hn : Γ.n = 37 := hn
  unfold m_code_Decode at h
  refine rgs0 (⟨[(0, (AV.list 1 eU8 (0 : Int) a_b .none)), (2, (.ptr 2 0))], [(2, .row 25 Q298)]⟩ : St) hn mix (no_hand hΓ) (by kernel_rfl) ?_
  obtain ⟨x5, hx5, h⟩ := bind_some h
  refine awp_scope (S := (List (Int) × Int)) (X := (TFunc × Int)) (fun (s_ : (List (Int) × Int)) => match s_ with | (l1, i2) => 0) (fun (s_ : (List (Int) × Int)) => match s_ with | (l1, i2) => (⟨[(2, (.ptr 2 0)), (4, (.ptr 8 0))], [(2, .row 25 Q298), (8, .row 72 [(AV.list 1 eU8 (0 : Int) l1 .none), (.int .i64 i2)])]⟩ : St)) _ _ (fun (r_ : (TFunc × Int)) (e : Exit) (st : St) => e = .ret ∧ retK Tryz.prog Tryz.f9.results.toList [] (.tuple [(.agg (eTFunc r_.1)), (.int .i64 r_.2)]) [] e st) ?_ ?_ hx5 ?_
  · clear h hx5
    intro y h
    refine rgs0 (⟨[(2, (.ptr 2 0)), (4, (.ptr 8 0))], [(2, .row 25 Q298), (8, .row 72 [(AV.list 1 eU8 (0 : Int) a_b .none), (.int .i64 (0 : Int))])]⟩ : St) hn mix (no_hand hΓ) (by kernel_rfl) ?_
    obtain ⟨x3, hx3, h⟩ := bind_some h
    refine rgs [⟨[(8, 30000)], [], (.agg (eTFunc x3.1)), [(30000, .row 72 [(AV.list 1 eU8 (0 : Int) x3.2.rest .none), (.int .i64 x3.2.code)])]⟩] [] (⟨[(2, (.ptr 2 0)), (4, (.ptr 8 0)), (5, (.ptr 5 0))], (Q296 x3)⟩ : St) [(Spec Tryz.prog 26 [(.ptr 30000 0)] [(30000, .row 72 [(AV.list 1 eU8 (0 : Int) a_b .none), (.int .i64 (0 : Int))])] (.agg (eTFunc x3.1)) [(30000, .row 72 [(AV.list 1 eU8 (0 : Int) x3.2.rest .none), (.int .i64 x3.2.code)])])] hn mix (no_hand hΓ) (by kernel_rfl) ⟨(ok_code_reader_function (⟨a_b, (0 : Int)⟩ : Treader2) x3 hx3), trivial⟩ ?_
    refine awp_seq ?_
    refine rgs0 (⟨[(2, (.ptr 2 0)), (4, (.ptr 8 0)), (5, (.ptr 5 0)), (15, (.bool ((x3.2.code : Int) != (0 : Int))))], (Q296 x3)⟩ : St) hn mix (no_hand hΓ) (by kernel_rfl) ?_
    refine awp_cond ((x3.2.code : Int) != (0 : Int)) (by kernel_rfl) (fun hb => ?_) (fun hb => ?_)
    · replace h := cond_t hb h
      clear hb
      refine awp_goto ?_
      refine then_goto ?_
      obtain rfl := Option.some.inj h
      exact ⟨rfl, rfl, le_restrict_eq [2, 4] [2, 8] (by kernel_rfl) (no_hand hΓ)⟩
    · replace h := cond_f hb h
      clear hb
      refine awp_skip ?_
      refine then_normal ?_
      refine awp_seq ?_
      refine rgs0 (⟨[(2, (.ptr 2 0)), (4, (.ptr 8 0)), (5, (.ptr 5 0)), (21, (.bool (decide (((0 : Int) : Int) < (x3.2.rest.length : Int)))))], (Q296 x3)⟩ : St) hn mix (no_hand hΓ) (by kernel_rfl) ?_
      refine awp_cond (decide (((0 : Int) : Int) < (x3.2.rest.length : Int))) (by kernel_rfl) (fun hb => ?_) (fun hb => ?_)
      · replace h := cond_t hb h
        clear hb
        refine rgs0 (⟨[(2, (.ptr 2 0)), (4, (.ptr 8 0))], [(2, .row 25 Q298), (8, .row 72 [(AV.list 1 eU8 (0 : Int) x3.2.rest .none), (.int .i64 (3 : Int))])]⟩ : St) hn mix (no_hand hΓ) (by kernel_rfl) ?_
        refine awp_goto ?_
        refine then_goto ?_
        obtain rfl := Option.some.inj h
        exact ⟨rfl, rfl, Le.refl _ _⟩
      · replace h := cond_f hb h
        clear hb
        refine awp_skip ?_
        refine then_normal ?_
        refine awp_seq ?_
        obtain ⟨x4, hx4, h⟩ := bind_some h
        refine rgs [⟨[], [], (.int .i64 x4), []⟩] [] (⟨[(2, (.ptr 2 0)), (4, (.ptr 8 0)), (5, (.ptr 5 0)), (27, (.bool (decide (((512 : Int) : Int) < x4))))], (Q296 x3)⟩ : St) [(Spec Tryz.prog 27 [(.agg (eTFunc x3.1))] [] (.int .i64 x4) [])] hn mix (no_hand hΓ) (by kernel_rfl) ⟨(ok_code_Size x3.1 x4 hx4), trivial⟩ ?_
        refine awp_cond (decide (((512 : Int) : Int) < x4)) (by kernel_rfl) (fun hb => ?_) (fun hb => ?_)
        · replace h := cond_t hb h
          clear hb
          refine rgs0 (⟨[(2, (.ptr 2 0)), (4, (.ptr 8 0))], [(2, .row 25 Q298), (8, .row 72 [(AV.list 1 eU8 (0 : Int) x3.2.rest .none), (.int .i64 (4 : Int))])]⟩ : St) hn mix (no_hand hΓ) (by kernel_rfl) ?_
          refine awp_goto ?_
          refine then_goto ?_
          obtain rfl := Option.some.inj h
          exact ⟨rfl, rfl, Le.refl _ _⟩
        · replace h := cond_f hb h
          clear hb
          refine awp_skip ?_
          refine then_normal ?_
          refine awp_seq ?_
          refine rgs0 (⟨[(2, (.ptr 2 0)), (3, (.int .i64 (0 : Int)))], [(2, .row 25 [(AV.list 1 eI64 (0 : Int) x3.1.Params .none), (.int .i64 x3.1.Ret), (AV.list 5 eTBlock (default : TBlock) x3.1.Blocks .none)])]⟩ : St) hn mix (no_hand hΓ) (by kernel_rfl) ?_
          refine awp_ret ?_
          refine then_ret ?_
          obtain rfl := Option.some.inj h
          exact ⟨(by intro l hh; cases hh), rfl, ⟨.inl rfl, [], by kernel_rfl⟩⟩
  · clear h hx5
    rintro ⟨l1, i2⟩ y rest hf h
    obtain rfl := Option.some.inj hf
    clear hf
    unfold m_code_Decode_F1 at h
    refine awp_seq ?_
    refine awp_skip ?_
    refine then_normal ?_
    refine rgs [] [(32, (.agg Q297))] (⟨[(2, (.ptr 2 0)), (3, (.int .i64 i2))], [(2, .row 25 Q297)]⟩ : St) [(AVle (.agg Q298) (.agg Q297))] hn mix (no_hand hΓ) (by kernel_rfl) ⟨(AVle.agg (.cons av_nil (.cons (AVle.refl _) (.cons av_nil .nil)))), trivial⟩ ?_
    refine awp_le (st' := (⟨[(2, (.ptr 2 0)), (3, (.int .i64 i2))], [(2, .row 25 [(AV.list 1 eI64 (0 : Int) ([] : List Int) .none), (.int .i64 (0 : Int)), (AV.list 5 eTBlock (default : TBlock) ([] : List TBlock) .none)])]⟩ : St)) (Le.trans (le_restrict_eq (st' := (⟨[(2, (.ptr 2 0)), (3, (.int .i64 i2))], [(2, .row 25 Q297)]⟩ : St)) [2, 3] [2] (by kernel_rfl) (no_hand hΓ)) (le_of (.cons (AVle.refl _) (.cons (AVle.refl _) .nil)) (.row (.cons AVle.untag (.cons (AVle.refl _) (.cons AVle.untag .nil))) .nil))) ?_
    refine awp_ret ?_
    obtain rfl := Option.some.inj h
    exact ⟨(by intro l hh; cases hh), rfl, ⟨.inl rfl, [], by kernel_rfl⟩⟩
  · clear hx5
    rintro e st' ⟨rfl, hk⟩
    obtain rfl := Option.some.inj h
    exact hk

noncomputable def m_slices_Equal_int_int_L1 (a_s1 : List (Int)) (a_s2 : List (Int)) : Int → Option (LR Int (Unit ⊕ Bool)) :=
  fun (i1 : Int) => (bif (decide ((i1 : Int) < (a_s1.length : Int))) then (chk (InB i1 a_s1.length) (chk (InB i1 a_s2.length) (bif (((a_s1.getD (i1).toNat (0 : Int)) : Int) != (a_s2.getD (i1).toNat (0 : Int))) then (some (.done (.inr false))) else (some (.next (w64 (i1 + (1 : Int)))))))) else (some (.done (.inl ()))))
noncomputable def Q301 (a_s1 : List (Int)) : AV := (.int .i64 (a_s1.length : Int))
noncomputable def Q299 (a_s1 : List (Int)) : AV := (AV.list 1 eI64 (0 : Int) a_s1 .none)
noncomputable def Q300 (a_s2 : List (Int)) : AV := (AV.list 1 eI64 (0 : Int) a_s2 .none)
noncomputable def m_slices_Equal_int_int (a_s1 : List (Int)) (a_s2 : List (Int)) : Option Bool :=
  (bif (((a_s1.length : Int) : Int) != (a_s2.length : Int)) then (some false) else ((loopO (S := Int) (X := (Unit ⊕ Bool)) (m_slices_Equal_int_int_L1 a_s1 a_s2) (0 : Int)).bind (fun x4 => (match x4 with | (.inl _) => (some true) | (.inr r6) => (some r6)))))
theorem ok_slices_Equal_int_int (a_s1 : List (Int)) (a_s2 : List (Int)) (r : Bool) (h : m_slices_Equal_int_int a_s1 a_s2 = some r) : Spec Tryz.prog 28 [(AV.list 1 eI64 (0 : Int) a_s1 .none), (AV.list 1 eI64 (0 : Int) a_s2 .none)] [] (.bool r) [] := by
  refine spec_of_awp (fn := Tryz.f28) Tryz.func28 rfl rfl (by kernel_rfl) (fun Γ hn hΓ => ?_)
  have hn : Γ.n = 26 := hn
  unfold m_slices_Equal_int_int at h
  refine rgs0 (⟨[(0, (Q299 a_s1)), (1, (Q300 a_s2))], []⟩ : St) hn mix (no_hand hΓ) (by kernel_rfl) ?_
  refine awp_seq ?_
  refine rgs0 (⟨[(0, (Q299 a_s1)), (1, (Q300 a_s2)), (10, (.bool (((a_s1.length : Int) : Int) != (a_s2.length : Int))))], []⟩ : St) hn mix (no_hand hΓ) (by kernel_rfl) ?_
  refine awp_cond (((a_s1.length : Int) : Int) != (a_s2.length : Int)) (by kernel_rfl) (fun hb => ?_) (fun hb => ?_)
  · replace h := cond_t hb h
    clear hb
    refine rgs0 (⟨[(4, (.bool false))], []⟩ : St) hn mix (no_hand hΓ) (by kernel_rfl) ?_
    refine awp_ret ?_
    refine then_ret ?_
    obtain rfl := Option.some.inj h
    exact ⟨.inl rfl, [], by kernel_rfl⟩
  · replace h := cond_f hb h
    clear hb
    refine awp_skip ?_
    refine then_normal ?_
    refine awp_seq ?_
    refine rgs0 (⟨[(0, (Q299 a_s1)), (1, (Q300 a_s2)), (12, (Q301 a_s1)), (13, (.int .i64 (0 : Int)))], []⟩ : St) hn mix (no_hand hΓ) (by kernel_rfl) ?_
    refine awp_block ?_
    refine awp_le (st' := (fun (i1 : Int) => (⟨[(0, (Q299 a_s1)), (1, (Q300 a_s2)), (12, (Q301 a_s1)), (13, (.int .i64 i1))], []⟩ : St)) (0 : Int)) (Le.refl _ _) ?_
    obtain ⟨x4, hx4, h⟩ := bind_some h
    refine awp_loop (fun (i1 : Int) => (⟨[(0, (Q299 a_s1)), (1, (Q300 a_s2)), (12, (Q301 a_s1)), (13, (.int .i64 i1))], []⟩ : St)) _ (fun (x_ : (Unit ⊕ Bool)) (e : Exit) (st : St) => match x_ with | (.inl _) => e = (.exit 0) ∧ Le Γ st (⟨[], []⟩ : St) | (.inr r_) => e = .ret ∧ retK Tryz.prog Tryz.f28.results.toList [] (.bool r_) [] e st) ?_ hx4 ?_
    · intro i1 y h
      unfold m_slices_Equal_int_int_L1 at h
      refine rgs0 (⟨[(0, (Q299 a_s1)), (1, (Q300 a_s2)), (12, (Q301 a_s1)), (13, (.int .i64 i1)), (14, (.bool (decide ((i1 : Int) < (a_s1.length : Int)))))], []⟩ : St) hn mix (no_hand hΓ) (by kernel_rfl) ?_
      refine awp_seq ?_
      refine awp_cond (decide ((i1 : Int) < (a_s1.length : Int))) (by kernel_rfl) (fun hb => ?_) (fun hb => ?_)
      · replace h := cond_t hb h
        clear hb
        refine awp_skip ?_
        refine then_normal ?_
        refine awp_seq ?_
        refine awp_block ?_
        refine rgs0 (⟨[(0, (Q299 a_s1)), (1, (Q300 a_s2)), (5, (.int .i64 i1)), (12, (Q301 a_s1)), (13, (.int .i64 i1))], []⟩ : St) hn mix (no_hand hΓ) (by kernel_rfl) ?_
        obtain ⟨hc2, h⟩ := chk_some h
        obtain ⟨hc3, h⟩ := chk_some h
        refine rgs [] [] (⟨[(0, (Q299 a_s1)), (1, (Q300 a_s2)), (12, (Q301 a_s1)), (13, (.int .i64 i1)), (24, (.bool (((a_s1.getD (i1).toNat (0 : Int)) : Int) != (a_s2.getD (i1).toNat (0 : Int)))))], []⟩ : St) [(InB i1 a_s1.length), (InB i1 a_s2.length)] hn mix (no_hand hΓ) (by kernel_rfl) ⟨hc2, hc3, trivial⟩ ?_
        refine awp_cond (((a_s1.getD (i1).toNat (0 : Int)) : Int) != (a_s2.getD (i1).toNat (0 : Int))) (by kernel_rfl) (fun hb => ?_) (fun hb => ?_)
        · replace h := cond_t hb h
          clear hb
          refine rgs0 (⟨[(4, (.bool false))], []⟩ : St) hn mix (no_hand hΓ) (by kernel_rfl) ?_
          refine awp_ret ?_
          refine block_ret ?_
          refine then_ret ?_
          obtain rfl := Option.some.inj h
          exact ⟨(by intro hh; cases hh), rfl, ⟨.inl rfl, [], by kernel_rfl⟩⟩
        · replace h := cond_f hb h
          clear hb
          refine awp_skip ?_
          refine block_normal ?_
          refine then_normal ?_
          refine rg0 (⟨[(0, (Q299 a_s1)), (1, (Q300 a_s2)), (12, (Q301 a_s1)), (13, (.int .i64 (w64 (i1 + (1 : Int)))))], []⟩ : St) hn mix (no_hand hΓ) (by kernel_rfl) ?_
          obtain rfl := Option.some.inj h
          exact ⟨rfl, Le.refl _ _⟩
      · replace h := cond_f hb h
        clear hb
        refine awp_exit ?_
        refine then_exit ?_
        obtain rfl := Option.some.inj h
        exact ⟨(by intro hh; cases hh), rfl, le_restrict_eq [] [] (by kernel_rfl) (no_hand hΓ)⟩
    · clear hx4
      rcases x4 with _ | r6
      · rintro e st' ⟨rfl, hl5⟩
        refine block_here ?_
        refine then_normal ?_
        refine awp_le hl5 ?_
        refine rgs0 (⟨[(4, (.bool true))], []⟩ : St) hn mix (no_hand hΓ) (by kernel_rfl) ?_
        refine awp_ret ?_
        obtain rfl := Option.some.inj h
        exact ⟨.inl rfl, [], by kernel_rfl⟩
      · rintro e st' ⟨rfl, hk⟩
        refine block_ret ?_
        refine then_ret ?_
        obtain rfl := Option.some.inj h
        exact hk

noncomputable def Q303 (a_a : TPhi) (a_b : TPhi) := (((a_a.Bits : Int) == a_b.Bits) == true)
noncomputable def Q302 (a_a : TPhi) (a_b : TPhi) := (bif ((a_a.Bits : Int) == a_b.Bits) then ((a_a.Dst : Int) == a_b.Dst) else false)
noncomputable def Q304 (a_a : TPhi) (a_b : TPhi) (x1 : Bool) := ((bif (Q302 a_a a_b) then x1 else false) == true)
noncomputable def m_code_samePhi (a_a : TPhi) (a_b : TPhi) : Option Bool :=
  ((bif ((bif ((a_a.Bits : Int) == a_b.Bits) then ((a_a.Dst : Int) == a_b.Dst) else false) == true) then m_slices_Equal_int_int a_a.From a_b.From else some false).bind fun x1 => ((bif ((bif (bif ((a_a.Bits : Int) == a_b.Bits) then ((a_a.Dst : Int) == a_b.Dst) else false) then x1 else false) == true) then m_slices_Equal_int_int a_a.Args a_b.Args else some false).bind fun x2 => (some (bif (bif (bif ((a_a.Bits : Int) == a_b.Bits) then ((a_a.Dst : Int) == a_b.Dst) else false) then x1 else false) then x2 else false))))
theorem ok_code_samePhi (a_a : TPhi) (a_b : TPhi) (r : Bool) (h : m_code_samePhi a_a a_b = some r) : Spec Tryz.prog 50 [(.agg (eTPhi a_a)), (.agg (eTPhi a_b))] [] (.bool r) [] := by
  refine spec_of_awp (fn := Tryz.f50) Tryz.func50 rfl rfl (by kernel_rfl) (fun Γ hn hΓ => ?_)
  have hn : Γ.n = 31 := hn
  unfold m_code_samePhi at h
  refine rgs0 (⟨[(2, (.ptr 2 0)), (3, (.ptr 3 0))], [(2, .row 49 [(.int .i64 a_a.Bits), (.int .i64 a_a.Dst), (AV.list 1 eI64 (0 : Int) a_a.From .none), (AV.list 1 eI64 (0 : Int) a_a.Args .none)]), (3, .row 49 [(.int .i64 a_b.Bits), (.int .i64 a_b.Dst), (AV.list 1 eI64 (0 : Int) a_b.From .none), (AV.list 1 eI64 (0 : Int) a_b.Args .none)])]⟩ : St) hn mix (no_hand hΓ) (by kernel_rfl) ?_
  obtain ⟨x1, hx1, h⟩ := bind_some h
  obtain ⟨x2, hx2, h⟩ := bind_some h
  refine rgs [⟨[], [], (.bool x1), []⟩, ⟨[], [], (.bool x2), []⟩] [] (⟨[(4, (.bool (bif (bif (Q302 a_a a_b) then x1 else false) then x2 else false)))], []⟩ : St) [((Q303 a_a a_b) = true → (Q303 a_a a_b) = true), ((Q303 a_a a_b) = true → (Q303 a_a a_b) = true), ((Q303 a_a a_b) = true → (Q303 a_a a_b) = true), ((Q303 a_a a_b) = true → (Q303 a_a a_b) = true), (((a_a.Bits : Int) == a_b.Bits) = true → (Q303 a_a a_b) = true), (((Q302 a_a a_b) == true) = true → ((Q302 a_a a_b) == true) = true), (((Q302 a_a a_b) == true) = true → ((Q302 a_a a_b) == true) = true), (((Q302 a_a a_b) == true) = true → ((Q302 a_a a_b) == true) = true), (((Q302 a_a a_b) == true) = true → ((Q302 a_a a_b) == true) = true), (((Q302 a_a a_b) == true) = true → (Spec Tryz.prog 28 [(AV.list 1 eI64 (0 : Int) a_a.From .none), (AV.list 1 eI64 (0 : Int) a_b.From .none)] [] (.bool x1) [])), ((Q302 a_a a_b) = true → ((Q302 a_a a_b) == true) = true), ((Q304 a_a a_b x1) = true → (Q304 a_a a_b x1) = true), ((Q304 a_a a_b x1) = true → (Q304 a_a a_b x1) = true), ((Q304 a_a a_b x1) = true → (Q304 a_a a_b x1) = true), ((Q304 a_a a_b x1) = true → (Q304 a_a a_b x1) = true), ((Q304 a_a a_b x1) = true → (Spec Tryz.prog 28 [(AV.list 1 eI64 (0 : Int) a_a.Args .none), (AV.list 1 eI64 (0 : Int) a_b.Args .none)] [] (.bool x2) [])), ((bif (Q302 a_a a_b) then x1 else false) = true → (Q304 a_a a_b x1) = true)] hn mix (no_hand hΓ) (by kernel_rfl) ⟨(fun hg => hg), (fun hg => hg), (fun hg => hg), (fun hg => hg), gT, (fun hg => hg), (fun hg => hg), (fun hg => hg), (fun hg => hg), (fun hg => (ok_slices_Equal_int_int a_a.From a_b.From x1 (cond_t hg hx1))), gT, (fun hg => hg), (fun hg => hg), (fun hg => hg), (fun hg => hg), (fun hg => (ok_slices_Equal_int_int a_a.Args a_b.Args x2 (cond_t hg hx2))), gT, trivial⟩ ?_
  refine awp_ret ?_
  obtain rfl := Option.some.inj h
  exact ⟨.inl rfl, [], by kernel_rfl⟩

noncomputable def m_slices_EqualFunc_api_Phi_api_Phi_api_Phi_api_Phi_L1 (a_s1 : List (TPhi)) (a_s2 : List (TPhi)) : Int → Option (LR Int (Unit ⊕ Bool)) :=
  fun (i1 : Int) => (bif (decide ((i1 : Int) < (a_s1.length : Int))) then (chk (InB i1 a_s1.length) (chk (InB i1 a_s2.length) ((m_code_samePhi (a_s1.getD (i1).toNat (default : TPhi)) (a_s2.getD (i1).toNat (default : TPhi))).bind fun x4 => (bif (!x4) then (some (.done (.inr false))) else (some (.next (w64 (i1 + (1 : Int))))))))) else (some (.done (.inl ()))))
noncomputable def Q308 (a_s1 : List (TPhi)) : AV := (.int .i64 (a_s1.length : Int))
noncomputable def Q307 (a_s1 : List (TPhi)) (i1 : Int) := (a_s1.getD (i1).toNat (default : TPhi))
noncomputable def Q309 (a_s2 : List (TPhi)) (i1 : Int) := (a_s2.getD (i1).toNat (default : TPhi))
noncomputable def Q305 (a_s1 : List (TPhi)) : AV := (AV.list 4 eTPhi (default : TPhi) a_s1 .none)
noncomputable def Q306 (a_s2 : List (TPhi)) : AV := (AV.list 4 eTPhi (default : TPhi) a_s2 .none)
noncomputable def Q310 (a_s1 : List (TPhi)) (i1 : Int) : List AV := [(.int .i64 (Q307 a_s1 i1).Bits), (.int .i64 (Q307 a_s1 i1).Dst), (AV.list 1 eI64 (0 : Int) (Q307 a_s1 i1).From .none), (AV.list 1 eI64 (0 : Int) (Q307 a_s1 i1).Args .none)]
noncomputable def m_slices_EqualFunc_api_Phi_api_Phi_api_Phi_api_Phi (a_s1 : List (TPhi)) (a_s2 : List (TPhi)) : Option Bool :=
  (bif (((a_s1.length : Int) : Int) != (a_s2.length : Int)) then (some false) else ((loopO (S := Int) (X := (Unit ⊕ Bool)) (m_slices_EqualFunc_api_Phi_api_Phi_api_Phi_api_Phi_L1 a_s1 a_s2) (0 : Int)).bind (fun x5 => (match x5 with | (.inl _) => (some true) | (.inr r7) => (some r7)))))
theorem ok_slices_EqualFunc_api_Phi_api_Phi_api_Phi_api_Phi (a_s1 : List (TPhi)) (a_s2 : List (TPhi)) (r : Bool) (h : m_slices_EqualFunc_api_Phi_api_Phi_api_Phi_api_Phi a_s1 a_s2 = some r) : Spec Tryz.prog 49 [(AV.list 4 eTPhi (default : TPhi) a_s1 .none), (AV.list 4 eTPhi (default : TPhi) a_s2 .none), (.clo 50 [] [])] [] (.bool r) [] := by
  refine spec_of_awp (fn := Tryz.f49) Tryz.func49 rfl rfl (by kernel_rfl) (fun Γ hn hΓ => ?_)
  have hn : Γ.n = 32 := hn
  unfold m_slices_EqualFunc_api_Phi_api_Phi_api_Phi_api_Phi at h
  refine rgs0 (⟨[(0, (Q305 a_s1)), (1, (Q306 a_s2)), (2, (.clo 50 [] []))], []⟩ : St) hn mix (no_hand hΓ) (by kernel_rfl) ?_
  refine awp_seq ?_
  refine rgs0 (⟨[(0, (Q305 a_s1)), (1, (Q306 a_s2)), (2, (.clo 50 [] [])), (14, (.bool (((a_s1.length : Int) : Int) != (a_s2.length : Int))))], []⟩ : St) hn mix (no_hand hΓ) (by kernel_rfl) ?_
  refine awp_cond (((a_s1.length : Int) : Int) != (a_s2.length : Int)) (by kernel_rfl) (fun hb => ?_) (fun hb => ?_)
  · replace h := cond_t hb h
    clear hb
    refine rgs0 (⟨[(6, (.bool false))], []⟩ : St) hn mix (no_hand hΓ) (by kernel_rfl) ?_
    refine awp_ret ?_
    refine then_ret ?_
    obtain rfl := Option.some.inj h
    exact ⟨.inl rfl, [], by kernel_rfl⟩
  · replace h := cond_f hb h
    clear hb
    refine awp_skip ?_
    refine then_normal ?_
    refine awp_seq ?_
    refine rgs0 (⟨[(1, (Q306 a_s2)), (2, (.clo 50 [] [])), (15, (Q305 a_s1)), (16, (Q308 a_s1)), (17, (.int .i64 (0 : Int)))], []⟩ : St) hn mix (no_hand hΓ) (by kernel_rfl) ?_
    refine awp_block ?_
    refine awp_le (st' := (fun (i1 : Int) => (⟨[(1, (Q306 a_s2)), (2, (.clo 50 [] [])), (15, (Q305 a_s1)), (16, (Q308 a_s1)), (17, (.int .i64 i1))], []⟩ : St)) (0 : Int)) (Le.refl _ _) ?_
    obtain ⟨x5, hx5, h⟩ := bind_some h
    refine awp_loop (fun (i1 : Int) => (⟨[(1, (Q306 a_s2)), (2, (.clo 50 [] [])), (15, (Q305 a_s1)), (16, (Q308 a_s1)), (17, (.int .i64 i1))], []⟩ : St)) _ (fun (x_ : (Unit ⊕ Bool)) (e : Exit) (st : St) => match x_ with | (.inl _) => e = (.exit 0) ∧ Le Γ st (⟨[], []⟩ : St) | (.inr r_) => e = .ret ∧ retK Tryz.prog Tryz.f49.results.toList [] (.bool r_) [] e st) ?_ hx5 ?_
    · intro i1 y h
      unfold m_slices_EqualFunc_api_Phi_api_Phi_api_Phi_api_Phi_L1 at h
      refine rgs0 (⟨[(1, (Q306 a_s2)), (2, (.clo 50 [] [])), (15, (Q305 a_s1)), (16, (Q308 a_s1)), (17, (.int .i64 i1)), (18, (.bool (decide ((i1 : Int) < (a_s1.length : Int)))))], []⟩ : St) hn mix (no_hand hΓ) (by kernel_rfl) ?_
      refine awp_seq ?_
      refine awp_cond (decide ((i1 : Int) < (a_s1.length : Int))) (by kernel_rfl) (fun hb => ?_) (fun hb => ?_)
      · replace h := cond_t hb h
        clear hb
        refine awp_skip ?_
        refine then_normal ?_
        refine awp_seq ?_
        refine awp_block ?_
        obtain ⟨hc2, h⟩ := chk_some h
        refine rgs [] [] (⟨[(1, (Q306 a_s2)), (2, (.clo 50 [] [])), (7, (.int .i64 i1)), (8, (.ptr 8 0)), (15, (Q305 a_s1)), (16, (Q308 a_s1)), (17, (.int .i64 i1))], [(8, .row 49 (Q310 a_s1 i1))]⟩ : St) [(InB i1 a_s1.length)] hn mix (no_hand hΓ) (by kernel_rfl) ⟨hc2, trivial⟩ ?_
        obtain ⟨hc3, h⟩ := chk_some h
        refine rgs [] [] (⟨[(1, (Q306 a_s2)), (2, (.clo 50 [] [])), (8, (.ptr 8 0)), (9, (.ptr 9 0)), (15, (Q305 a_s1)), (16, (Q308 a_s1)), (17, (.int .i64 i1))], [(8, .row 49 (Q310 a_s1 i1)), (9, .row 49 [(.int .i64 (Q309 a_s2 i1).Bits), (.int .i64 (Q309 a_s2 i1).Dst), (AV.list 1 eI64 (0 : Int) (Q309 a_s2 i1).From .none), (AV.list 1 eI64 (0 : Int) (Q309 a_s2 i1).Args .none)])]⟩ : St) [(InB i1 a_s2.length)] hn mix (no_hand hΓ) (by kernel_rfl) ⟨hc3, trivial⟩ ?_
        obtain ⟨x4, hx4, h⟩ := bind_some h
        refine rgs [⟨[], [], (.bool x4), []⟩] [] (⟨[(1, (Q306 a_s2)), (2, (.clo 50 [] [])), (15, (Q305 a_s1)), (16, (Q308 a_s1)), (17, (.int .i64 i1)), (30, (.bool (!x4)))], []⟩ : St) [(Spec Tryz.prog 50 [(.agg (eTPhi (Q307 a_s1 i1))), (.agg (eTPhi (Q309 a_s2 i1)))] [] (.bool x4) [])] hn mix (no_hand hΓ) (by kernel_rfl) ⟨(ok_code_samePhi (Q307 a_s1 i1) (Q309 a_s2 i1) x4 hx4), trivial⟩ ?_
        refine awp_cond (!x4) (by kernel_rfl) (fun hb => ?_) (fun hb => ?_)
        · replace h := cond_t hb h
          clear hb
          refine rgs0 (⟨[(6, (.bool false))], []⟩ : St) hn mix (no_hand hΓ) (by kernel_rfl) ?_
          refine awp_ret ?_
          refine block_ret ?_
          refine then_ret ?_
          obtain rfl := Option.some.inj h
          exact ⟨(by intro hh; cases hh), rfl, ⟨.inl rfl, [], by kernel_rfl⟩⟩
        · replace h := cond_f hb h
          clear hb
          refine awp_skip ?_
          refine block_normal ?_
          refine then_normal ?_
          refine rg0 (⟨[(1, (Q306 a_s2)), (2, (.clo 50 [] [])), (15, (Q305 a_s1)), (16, (Q308 a_s1)), (17, (.int .i64 (w64 (i1 + (1 : Int)))))], []⟩ : St) hn mix (no_hand hΓ) (by kernel_rfl) ?_
          obtain rfl := Option.some.inj h
          exact ⟨rfl, Le.refl _ _⟩
      · replace h := cond_f hb h
        clear hb
        refine awp_exit ?_
        refine then_exit ?_
        obtain rfl := Option.some.inj h
        exact ⟨(by intro hh; cases hh), rfl, le_restrict_eq [] [] (by kernel_rfl) (no_hand hΓ)⟩
    · clear hx5
      rcases x5 with _ | r7
      · rintro e st' ⟨rfl, hl6⟩
        refine block_here ?_
        refine then_normal ?_
        refine awp_le hl6 ?_
        refine rgs0 (⟨[(6, (.bool true))], []⟩ : St) hn mix (no_hand hΓ) (by kernel_rfl) ?_
        refine awp_ret ?_
        obtain rfl := Option.some.inj h
        exact ⟨.inl rfl, [], by kernel_rfl⟩
      · rintro e st' ⟨rfl, hk⟩
        refine block_ret ?_
        refine then_ret ?_
        obtain rfl := Option.some.inj h
        exact hk

noncomputable def Q313 (a_a : TOp) (a_b : TOp) := ((a_a.Dst : Int) == a_b.Dst)
noncomputable def Q315 (a_a : TOp) (a_b : TOp) := ((a_a.Imm : Int) == a_b.Imm)
noncomputable def Q314 (a_a : TOp) (a_b : TOp) := (((a_a.Kind : Int) == a_b.Kind) == true)
noncomputable def Q311 (a_a : TOp) (a_b : TOp) := (bif (bif ((a_a.Kind : Int) == a_b.Kind) then ((a_a.Bits : Int) == a_b.Bits) else false) then ((a_a.Lanes : Int) == a_b.Lanes) else false)
noncomputable def Q316 (a_a : TOp) (a_b : TOp) := (bif (Q311 a_a a_b) then (Q313 a_a a_b) else false)
noncomputable def Q317 (a_a : TOp) (a_b : TOp) := ((bif (Q316 a_a a_b) then (Q315 a_a a_b) else false) == true)
noncomputable def Q312 (a_a : TOp) (a_b : TOp) := ((bif ((a_a.Kind : Int) == a_b.Kind) then ((a_a.Bits : Int) == a_b.Bits) else false) == true)
noncomputable def m_kind_Same (a_a : TOp) (a_b : TOp) : Option Bool :=
  ((bif ((bif (bif (bif (bif ((a_a.Kind : Int) == a_b.Kind) then ((a_a.Bits : Int) == a_b.Bits) else false) then ((a_a.Lanes : Int) == a_b.Lanes) else false) then ((a_a.Dst : Int) == a_b.Dst) else false) then ((a_a.Imm : Int) == a_b.Imm) else false) == true) then m_slices_Equal_int_int a_a.Args a_b.Args else some false).bind fun x1 => (some (bif (bif (bif (bif (bif ((a_a.Kind : Int) == a_b.Kind) then ((a_a.Bits : Int) == a_b.Bits) else false) then ((a_a.Lanes : Int) == a_b.Lanes) else false) then ((a_a.Dst : Int) == a_b.Dst) else false) then ((a_a.Imm : Int) == a_b.Imm) else false) then x1 else false)))
theorem ok_kind_Same (a_a : TOp) (a_b : TOp) (r : Bool) (h : m_kind_Same a_a a_b = some r) : Spec Tryz.prog 52 [(.agg (eTOp a_a)), (.agg (eTOp a_b))] [] (.bool r) [] := by
  refine spec_of_awp (fn := Tryz.f52) Tryz.func52 rfl rfl (by kernel_rfl) (fun Γ hn hΓ => ?_)
  have hn : Γ.n = 45 := hn
  unfold m_kind_Same at h
  refine rgs0 (⟨[(2, (.ptr 2 0)), (3, (.ptr 3 0))], [(2, .row 41 [(.int .i64 a_a.Kind), (.int .i64 a_a.Bits), (.int .i64 a_a.Lanes), (.int .i64 a_a.Dst), (AV.list 1 eI64 (0 : Int) a_a.Args .none), (.int .u64 a_a.Imm)]), (3, .row 41 [(.int .i64 a_b.Kind), (.int .i64 a_b.Bits), (.int .i64 a_b.Lanes), (.int .i64 a_b.Dst), (AV.list 1 eI64 (0 : Int) a_b.Args .none), (.int .u64 a_b.Imm)])]⟩ : St) hn mix (no_hand hΓ) (by kernel_rfl) ?_
  obtain ⟨x1, hx1, h⟩ := bind_some h
  refine rgs [⟨[], [], (.bool x1), []⟩] [] (⟨[(4, (.bool (bif (bif (Q316 a_a a_b) then (Q315 a_a a_b) else false) then x1 else false)))], []⟩ : St) [((Q314 a_a a_b) = true → (Q314 a_a a_b) = true), ((Q314 a_a a_b) = true → (Q314 a_a a_b) = true), ((Q314 a_a a_b) = true → (Q314 a_a a_b) = true), ((Q314 a_a a_b) = true → (Q314 a_a a_b) = true), (((a_a.Kind : Int) == a_b.Kind) = true → (Q314 a_a a_b) = true), ((Q312 a_a a_b) = true → (Q312 a_a a_b) = true), ((Q312 a_a a_b) = true → (Q312 a_a a_b) = true), ((Q312 a_a a_b) = true → (Q312 a_a a_b) = true), ((Q312 a_a a_b) = true → (Q312 a_a a_b) = true), ((bif ((a_a.Kind : Int) == a_b.Kind) then ((a_a.Bits : Int) == a_b.Bits) else false) = true → (Q312 a_a a_b) = true), (((Q311 a_a a_b) == true) = true → ((Q311 a_a a_b) == true) = true), (((Q311 a_a a_b) == true) = true → ((Q311 a_a a_b) == true) = true), (((Q311 a_a a_b) == true) = true → ((Q311 a_a a_b) == true) = true), (((Q311 a_a a_b) == true) = true → ((Q311 a_a a_b) == true) = true), ((Q311 a_a a_b) = true → ((Q311 a_a a_b) == true) = true), (((Q316 a_a a_b) == true) = true → ((Q316 a_a a_b) == true) = true), (((Q316 a_a a_b) == true) = true → ((Q316 a_a a_b) == true) = true), (((Q316 a_a a_b) == true) = true → ((Q316 a_a a_b) == true) = true), (((Q316 a_a a_b) == true) = true → ((Q316 a_a a_b) == true) = true), ((Q316 a_a a_b) = true → ((Q316 a_a a_b) == true) = true), ((Q317 a_a a_b) = true → (Q317 a_a a_b) = true), ((Q317 a_a a_b) = true → (Q317 a_a a_b) = true), ((Q317 a_a a_b) = true → (Q317 a_a a_b) = true), ((Q317 a_a a_b) = true → (Q317 a_a a_b) = true), ((Q317 a_a a_b) = true → (Spec Tryz.prog 28 [(AV.list 1 eI64 (0 : Int) a_a.Args .none), (AV.list 1 eI64 (0 : Int) a_b.Args .none)] [] (.bool x1) [])), ((bif (Q316 a_a a_b) then (Q315 a_a a_b) else false) = true → (Q317 a_a a_b) = true)] hn mix (no_hand hΓ) (by kernel_rfl) ⟨(fun hg => hg), (fun hg => hg), (fun hg => hg), (fun hg => hg), gT, (fun hg => hg), (fun hg => hg), (fun hg => hg), (fun hg => hg), gT, (fun hg => hg), (fun hg => hg), (fun hg => hg), (fun hg => hg), gT, (fun hg => hg), (fun hg => hg), (fun hg => hg), (fun hg => hg), gT, (fun hg => hg), (fun hg => hg), (fun hg => hg), (fun hg => hg), (fun hg => (ok_slices_Equal_int_int a_a.Args a_b.Args x1 (cond_t hg hx1))), gT, trivial⟩ ?_
  refine awp_ret ?_
  obtain rfl := Option.some.inj h
  exact ⟨.inl rfl, [], by kernel_rfl⟩

noncomputable def m_slices_EqualFunc_api_Op_api_Op_api_Op_api_Op_L1 (a_s1 : List (TOp)) (a_s2 : List (TOp)) : Int → Option (LR Int (Unit ⊕ Bool)) :=
  fun (i1 : Int) => (bif (decide ((i1 : Int) < (a_s1.length : Int))) then (chk (InB i1 a_s1.length) (chk (InB i1 a_s2.length) ((m_kind_Same (a_s1.getD (i1).toNat (default : TOp)) (a_s2.getD (i1).toNat (default : TOp))).bind fun x4 => (bif (!x4) then (some (.done (.inr false))) else (some (.next (w64 (i1 + (1 : Int))))))))) else (some (.done (.inl ()))))
noncomputable def Q322 (a_s1 : List (TOp)) : AV := (.int .i64 (a_s1.length : Int))
noncomputable def Q318 (a_s1 : List (TOp)) (i1 : Int) := (a_s1.getD (i1).toNat (default : TOp))
noncomputable def Q321 (a_s2 : List (TOp)) (i1 : Int) := (a_s2.getD (i1).toNat (default : TOp))
noncomputable def Q319 (a_s1 : List (TOp)) : AV := (AV.list 6 eTOp (default : TOp) a_s1 .none)
noncomputable def Q320 (a_s2 : List (TOp)) : AV := (AV.list 6 eTOp (default : TOp) a_s2 .none)
noncomputable def Q323 (a_s1 : List (TOp)) (i1 : Int) : List AV := [(.int .i64 (Q318 a_s1 i1).Kind), (.int .i64 (Q318 a_s1 i1).Bits), (.int .i64 (Q318 a_s1 i1).Lanes), (.int .i64 (Q318 a_s1 i1).Dst), (AV.list 1 eI64 (0 : Int) (Q318 a_s1 i1).Args .none), (.int .u64 (Q318 a_s1 i1).Imm)]
noncomputable def m_slices_EqualFunc_api_Op_api_Op_api_Op_api_Op (a_s1 : List (TOp)) (a_s2 : List (TOp)) : Option Bool :=
  (bif (((a_s1.length : Int) : Int) != (a_s2.length : Int)) then (some false) else ((loopO (S := Int) (X := (Unit ⊕ Bool)) (m_slices_EqualFunc_api_Op_api_Op_api_Op_api_Op_L1 a_s1 a_s2) (0 : Int)).bind (fun x5 => (match x5 with | (.inl _) => (some true) | (.inr r7) => (some r7)))))
theorem ok_slices_EqualFunc_api_Op_api_Op_api_Op_api_Op (a_s1 : List (TOp)) (a_s2 : List (TOp)) (r : Bool) (h : m_slices_EqualFunc_api_Op_api_Op_api_Op_api_Op a_s1 a_s2 = some r) : Spec Tryz.prog 51 [(AV.list 6 eTOp (default : TOp) a_s1 .none), (AV.list 6 eTOp (default : TOp) a_s2 .none), (.clo 52 [] [])] [] (.bool r) [] := by
  refine spec_of_awp (fn := Tryz.f51) Tryz.func51 rfl rfl (by kernel_rfl) (fun Γ hn hΓ => ?_)
  have hn : Γ.n = 32 := hn
  unfold m_slices_EqualFunc_api_Op_api_Op_api_Op_api_Op at h
  refine rgs0 (⟨[(0, (Q319 a_s1)), (1, (Q320 a_s2)), (2, (.clo 52 [] []))], []⟩ : St) hn mix (no_hand hΓ) (by kernel_rfl) ?_
  refine awp_seq ?_
  refine rgs0 (⟨[(0, (Q319 a_s1)), (1, (Q320 a_s2)), (2, (.clo 52 [] [])), (14, (.bool (((a_s1.length : Int) : Int) != (a_s2.length : Int))))], []⟩ : St) hn mix (no_hand hΓ) (by kernel_rfl) ?_
  refine awp_cond (((a_s1.length : Int) : Int) != (a_s2.length : Int)) (by kernel_rfl) (fun hb => ?_) (fun hb => ?_)
  · replace h := cond_t hb h
    clear hb
    refine rgs0 (⟨[(6, (.bool false))], []⟩ : St) hn mix (no_hand hΓ) (by kernel_rfl) ?_
    refine awp_ret ?_
    refine then_ret ?_
    obtain rfl := Option.some.inj h
    exact ⟨.inl rfl, [], by kernel_rfl⟩
  · replace h := cond_f hb h
    clear hb
    refine awp_skip ?_
    refine then_normal ?_
    refine awp_seq ?_
    refine rgs0 (⟨[(1, (Q320 a_s2)), (2, (.clo 52 [] [])), (15, (Q319 a_s1)), (16, (Q322 a_s1)), (17, (.int .i64 (0 : Int)))], []⟩ : St) hn mix (no_hand hΓ) (by kernel_rfl) ?_
    refine awp_block ?_
    refine awp_le (st' := (fun (i1 : Int) => (⟨[(1, (Q320 a_s2)), (2, (.clo 52 [] [])), (15, (Q319 a_s1)), (16, (Q322 a_s1)), (17, (.int .i64 i1))], []⟩ : St)) (0 : Int)) (Le.refl _ _) ?_
    obtain ⟨x5, hx5, h⟩ := bind_some h
    refine awp_loop (fun (i1 : Int) => (⟨[(1, (Q320 a_s2)), (2, (.clo 52 [] [])), (15, (Q319 a_s1)), (16, (Q322 a_s1)), (17, (.int .i64 i1))], []⟩ : St)) _ (fun (x_ : (Unit ⊕ Bool)) (e : Exit) (st : St) => match x_ with | (.inl _) => e = (.exit 0) ∧ Le Γ st (⟨[], []⟩ : St) | (.inr r_) => e = .ret ∧ retK Tryz.prog Tryz.f51.results.toList [] (.bool r_) [] e st) ?_ hx5 ?_
    · intro i1 y h
      unfold m_slices_EqualFunc_api_Op_api_Op_api_Op_api_Op_L1 at h
      refine rgs0 (⟨[(1, (Q320 a_s2)), (2, (.clo 52 [] [])), (15, (Q319 a_s1)), (16, (Q322 a_s1)), (17, (.int .i64 i1)), (18, (.bool (decide ((i1 : Int) < (a_s1.length : Int)))))], []⟩ : St) hn mix (no_hand hΓ) (by kernel_rfl) ?_
      refine awp_seq ?_
      refine awp_cond (decide ((i1 : Int) < (a_s1.length : Int))) (by kernel_rfl) (fun hb => ?_) (fun hb => ?_)
      · replace h := cond_t hb h
        clear hb
        refine awp_skip ?_
        refine then_normal ?_
        refine awp_seq ?_
        refine awp_block ?_
        obtain ⟨hc2, h⟩ := chk_some h
        refine rgs [] [] (⟨[(1, (Q320 a_s2)), (2, (.clo 52 [] [])), (7, (.int .i64 i1)), (8, (.ptr 8 0)), (15, (Q319 a_s1)), (16, (Q322 a_s1)), (17, (.int .i64 i1))], [(8, .row 41 (Q323 a_s1 i1))]⟩ : St) [(InB i1 a_s1.length)] hn mix (no_hand hΓ) (by kernel_rfl) ⟨hc2, trivial⟩ ?_
        obtain ⟨hc3, h⟩ := chk_some h
        refine rgs [] [] (⟨[(1, (Q320 a_s2)), (2, (.clo 52 [] [])), (8, (.ptr 8 0)), (9, (.ptr 9 0)), (15, (Q319 a_s1)), (16, (Q322 a_s1)), (17, (.int .i64 i1))], [(8, .row 41 (Q323 a_s1 i1)), (9, .row 41 [(.int .i64 (Q321 a_s2 i1).Kind), (.int .i64 (Q321 a_s2 i1).Bits), (.int .i64 (Q321 a_s2 i1).Lanes), (.int .i64 (Q321 a_s2 i1).Dst), (AV.list 1 eI64 (0 : Int) (Q321 a_s2 i1).Args .none), (.int .u64 (Q321 a_s2 i1).Imm)])]⟩ : St) [(InB i1 a_s2.length)] hn mix (no_hand hΓ) (by kernel_rfl) ⟨hc3, trivial⟩ ?_
        obtain ⟨x4, hx4, h⟩ := bind_some h
        refine rgs [⟨[], [], (.bool x4), []⟩] [] (⟨[(1, (Q320 a_s2)), (2, (.clo 52 [] [])), (15, (Q319 a_s1)), (16, (Q322 a_s1)), (17, (.int .i64 i1)), (30, (.bool (!x4)))], []⟩ : St) [(Spec Tryz.prog 52 [(.agg (eTOp (Q318 a_s1 i1))), (.agg (eTOp (Q321 a_s2 i1)))] [] (.bool x4) [])] hn mix (no_hand hΓ) (by kernel_rfl) ⟨(ok_kind_Same (Q318 a_s1 i1) (Q321 a_s2 i1) x4 hx4), trivial⟩ ?_
        refine awp_cond (!x4) (by kernel_rfl) (fun hb => ?_) (fun hb => ?_)
        · replace h := cond_t hb h
          clear hb
          refine rgs0 (⟨[(6, (.bool false))], []⟩ : St) hn mix (no_hand hΓ) (by kernel_rfl) ?_
          refine awp_ret ?_
          refine block_ret ?_
          refine then_ret ?_
          obtain rfl := Option.some.inj h
          exact ⟨(by intro hh; cases hh), rfl, ⟨.inl rfl, [], by kernel_rfl⟩⟩
        · replace h := cond_f hb h
          clear hb
          refine awp_skip ?_
          refine block_normal ?_
          refine then_normal ?_
          refine rg0 (⟨[(1, (Q320 a_s2)), (2, (.clo 52 [] [])), (15, (Q319 a_s1)), (16, (Q322 a_s1)), (17, (.int .i64 (w64 (i1 + (1 : Int)))))], []⟩ : St) hn mix (no_hand hΓ) (by kernel_rfl) ?_
          obtain rfl := Option.some.inj h
          exact ⟨rfl, Le.refl _ _⟩
      · replace h := cond_f hb h
        clear hb
        refine awp_exit ?_
        refine then_exit ?_
        obtain rfl := Option.some.inj h
        exact ⟨(by intro hh; cases hh), rfl, le_restrict_eq [] [] (by kernel_rfl) (no_hand hΓ)⟩
    · clear hx5
      rcases x5 with _ | r7
      · rintro e st' ⟨rfl, hl6⟩
        refine block_here ?_
        refine then_normal ?_
        refine awp_le hl6 ?_
        refine rgs0 (⟨[(6, (.bool true))], []⟩ : St) hn mix (no_hand hΓ) (by kernel_rfl) ?_
        refine awp_ret ?_
        obtain rfl := Option.some.inj h
        exact ⟨.inl rfl, [], by kernel_rfl⟩
      · rintro e st' ⟨rfl, hk⟩
        refine block_ret ?_
        refine then_ret ?_
        obtain rfl := Option.some.inj h
        exact hk

noncomputable def Q325 (a_a : TEnd) (a_b : TEnd) := (((a_a.Kind : Int) == a_b.Kind) == true)
noncomputable def Q324 (a_a : TEnd) (a_b : TEnd) := (bif ((a_a.Kind : Int) == a_b.Kind) then ((a_a.Arg : Int) == a_b.Arg) else false)
noncomputable def m_code_sameEnd (a_a : TEnd) (a_b : TEnd) : Option Bool :=
  ((bif ((bif ((a_a.Kind : Int) == a_b.Kind) then ((a_a.Arg : Int) == a_b.Arg) else false) == true) then m_slices_Equal_int_int a_a.To a_b.To else some false).bind fun x1 => (some (bif (bif ((a_a.Kind : Int) == a_b.Kind) then ((a_a.Arg : Int) == a_b.Arg) else false) then x1 else false)))
theorem ok_code_sameEnd (a_a : TEnd) (a_b : TEnd) (r : Bool) (h : m_code_sameEnd a_a a_b = some r) : Spec Tryz.prog 53 [(.agg (eTEnd a_a)), (.agg (eTEnd a_b))] [] (.bool r) [] := by
  refine spec_of_awp (fn := Tryz.f53) Tryz.func53 rfl rfl (by kernel_rfl) (fun Γ hn hΓ => ?_)
  have hn : Γ.n = 24 := hn
  unfold m_code_sameEnd at h
  refine rgs0 (⟨[(2, (.ptr 2 0)), (3, (.ptr 3 0))], [(2, .row 45 [(.int .i64 a_a.Kind), (.int .i64 a_a.Arg), (AV.list 1 eI64 (0 : Int) a_a.To .none)]), (3, .row 45 [(.int .i64 a_b.Kind), (.int .i64 a_b.Arg), (AV.list 1 eI64 (0 : Int) a_b.To .none)])]⟩ : St) hn mix (no_hand hΓ) (by kernel_rfl) ?_
  obtain ⟨x1, hx1, h⟩ := bind_some h
  refine rgs [⟨[], [], (.bool x1), []⟩] [] (⟨[(4, (.bool (bif (Q324 a_a a_b) then x1 else false)))], []⟩ : St) [((Q325 a_a a_b) = true → (Q325 a_a a_b) = true), ((Q325 a_a a_b) = true → (Q325 a_a a_b) = true), ((Q325 a_a a_b) = true → (Q325 a_a a_b) = true), ((Q325 a_a a_b) = true → (Q325 a_a a_b) = true), (((a_a.Kind : Int) == a_b.Kind) = true → (Q325 a_a a_b) = true), (((Q324 a_a a_b) == true) = true → ((Q324 a_a a_b) == true) = true), (((Q324 a_a a_b) == true) = true → ((Q324 a_a a_b) == true) = true), (((Q324 a_a a_b) == true) = true → ((Q324 a_a a_b) == true) = true), (((Q324 a_a a_b) == true) = true → ((Q324 a_a a_b) == true) = true), (((Q324 a_a a_b) == true) = true → (Spec Tryz.prog 28 [(AV.list 1 eI64 (0 : Int) a_a.To .none), (AV.list 1 eI64 (0 : Int) a_b.To .none)] [] (.bool x1) [])), ((Q324 a_a a_b) = true → ((Q324 a_a a_b) == true) = true)] hn mix (no_hand hΓ) (by kernel_rfl) ⟨(fun hg => hg), (fun hg => hg), (fun hg => hg), (fun hg => hg), gT, (fun hg => hg), (fun hg => hg), (fun hg => hg), (fun hg => hg), (fun hg => (ok_slices_Equal_int_int a_a.To a_b.To x1 (cond_t hg hx1))), gT, trivial⟩ ?_
  refine awp_ret ?_
  obtain rfl := Option.some.inj h
  exact ⟨.inl rfl, [], by kernel_rfl⟩

noncomputable def Q326 (x1 : Bool) (x2 : Bool) := ((bif x1 then x2 else false) == true)
noncomputable def m_code_sameBlock (a_a : TBlock) (a_b : TBlock) : Option Bool :=
  ((m_slices_EqualFunc_api_Phi_api_Phi_api_Phi_api_Phi a_a.Phis a_b.Phis).bind fun x1 => ((bif (x1 == true) then m_slices_EqualFunc_api_Op_api_Op_api_Op_api_Op a_a.Ops a_b.Ops else some false).bind fun x2 => ((bif ((bif x1 then x2 else false) == true) then m_code_sameEnd (⟨a_a.End.Kind, a_a.End.Arg, a_a.End.To⟩ : TEnd) (⟨a_b.End.Kind, a_b.End.Arg, a_b.End.To⟩ : TEnd) else some false).bind fun x3 => (some (bif (bif x1 then x2 else false) then x3 else false)))))
theorem ok_code_sameBlock (a_a : TBlock) (a_b : TBlock) (r : Bool) (h : m_code_sameBlock a_a a_b = some r) : Spec Tryz.prog 30 [(.agg (eTBlock a_a)), (.agg (eTBlock a_b))] [] (.bool r) [] := by
  refine spec_of_awp (fn := Tryz.f30) Tryz.func30 rfl rfl (by kernel_rfl) (fun Γ hn hΓ => ?_)
  have hn : Γ.n = 24 := hn
  unfold m_code_sameBlock at h
  refine rgs0 (⟨[(2, (.ptr 2 0)), (3, (.ptr 3 0))], [(2, .row 47 [(AV.list 4 eTPhi (default : TPhi) a_a.Phis .none), (AV.list 6 eTOp (default : TOp) a_a.Ops .none), (.int .i64 a_a.End.Kind), (.int .i64 a_a.End.Arg), (AV.list 1 eI64 (0 : Int) a_a.End.To .none)]), (3, .row 47 [(AV.list 4 eTPhi (default : TPhi) a_b.Phis .none), (AV.list 6 eTOp (default : TOp) a_b.Ops .none), (.int .i64 a_b.End.Kind), (.int .i64 a_b.End.Arg), (AV.list 1 eI64 (0 : Int) a_b.End.To .none)])]⟩ : St) hn mix (no_hand hΓ) (by kernel_rfl) ?_
  obtain ⟨x1, hx1, h⟩ := bind_some h
  obtain ⟨x2, hx2, h⟩ := bind_some h
  obtain ⟨x3, hx3, h⟩ := bind_some h
  refine rgs [⟨[], [], (.bool x1), []⟩, ⟨[], [], (.bool x2), []⟩, ⟨[], [], (.bool x3), []⟩] [] (⟨[(4, (.bool (bif (bif x1 then x2 else false) then x3 else false)))], []⟩ : St) [(Spec Tryz.prog 49 [(AV.list 4 eTPhi (default : TPhi) a_a.Phis .none), (AV.list 4 eTPhi (default : TPhi) a_b.Phis .none), (.clo 50 [] [])] [] (.bool x1) []), ((x1 == true) = true → (x1 == true) = true), ((x1 == true) = true → (x1 == true) = true), ((x1 == true) = true → (x1 == true) = true), ((x1 == true) = true → (x1 == true) = true), ((x1 == true) = true → (Spec Tryz.prog 51 [(AV.list 6 eTOp (default : TOp) a_a.Ops .none), (AV.list 6 eTOp (default : TOp) a_b.Ops .none), (.clo 52 [] [])] [] (.bool x2) [])), (x1 = true → (x1 == true) = true), ((Q326 x1 x2) = true → (Q326 x1 x2) = true), ((Q326 x1 x2) = true → (Q326 x1 x2) = true), ((Q326 x1 x2) = true → (Q326 x1 x2) = true), ((Q326 x1 x2) = true → (Q326 x1 x2) = true), ((Q326 x1 x2) = true → (Spec Tryz.prog 53 [(.agg [(.int .i64 a_a.End.Kind), (.int .i64 a_a.End.Arg), (AV.list 1 eI64 (0 : Int) a_a.End.To .none)]), (.agg [(.int .i64 a_b.End.Kind), (.int .i64 a_b.End.Arg), (AV.list 1 eI64 (0 : Int) a_b.End.To .none)])] [] (.bool x3) [])), ((bif x1 then x2 else false) = true → (Q326 x1 x2) = true)] hn mix (no_hand hΓ) (by kernel_rfl) ⟨(ok_slices_EqualFunc_api_Phi_api_Phi_api_Phi_api_Phi a_a.Phis a_b.Phis x1 hx1), (fun hg => hg), (fun hg => hg), (fun hg => hg), (fun hg => hg), (fun hg => (ok_slices_EqualFunc_api_Op_api_Op_api_Op_api_Op a_a.Ops a_b.Ops x2 (cond_t hg hx2))), gT, (fun hg => hg), (fun hg => hg), (fun hg => hg), (fun hg => hg), (fun hg => (ok_code_sameEnd (⟨a_a.End.Kind, a_a.End.Arg, a_a.End.To⟩ : TEnd) (⟨a_b.End.Kind, a_b.End.Arg, a_b.End.To⟩ : TEnd) x3 (cond_t hg hx3))), gT, trivial⟩ ?_
  refine awp_ret ?_
  obtain rfl := Option.some.inj h
  exact ⟨.inl rfl, [], by kernel_rfl⟩

noncomputable def m_slices_EqualFunc_api_Block_api_Block_api_Block_api_Block_L1 (a_s1 : List (TBlock)) (a_s2 : List (TBlock)) : Int → Option (LR Int (Unit ⊕ Bool)) :=
  fun (i1 : Int) => (bif (decide ((i1 : Int) < (a_s1.length : Int))) then (chk (InB i1 a_s1.length) (chk (InB i1 a_s2.length) ((m_code_sameBlock (a_s1.getD (i1).toNat (default : TBlock)) (a_s2.getD (i1).toNat (default : TBlock))).bind fun x4 => (bif (!x4) then (some (.done (.inr false))) else (some (.next (w64 (i1 + (1 : Int))))))))) else (some (.done (.inl ()))))
noncomputable def Q327 := (default : TBlock)
noncomputable def Q328 (a_s1 : List (TBlock)) : AV := (.int .i64 (a_s1.length : Int))
noncomputable def Q330 (a_s1 : List (TBlock)) : AV := (AV.list 5 eTBlock Q327 a_s1 .none)
noncomputable def Q331 (a_s2 : List (TBlock)) : AV := (AV.list 5 eTBlock Q327 a_s2 .none)
noncomputable def Q329 (a_s1 : List (TBlock)) (i1 : Int) : List AV := [(AV.list 4 eTPhi (default : TPhi) (a_s1.getD (i1).toNat Q327).Phis .none), (AV.list 6 eTOp (default : TOp) (a_s1.getD (i1).toNat Q327).Ops .none), (.int .i64 (a_s1.getD (i1).toNat Q327).End.Kind), (.int .i64 (a_s1.getD (i1).toNat Q327).End.Arg), (AV.list 1 eI64 (0 : Int) (a_s1.getD (i1).toNat Q327).End.To .none)]
noncomputable def m_slices_EqualFunc_api_Block_api_Block_api_Block_api_Block (a_s1 : List (TBlock)) (a_s2 : List (TBlock)) : Option Bool :=
  (bif (((a_s1.length : Int) : Int) != (a_s2.length : Int)) then (some false) else ((loopO (S := Int) (X := (Unit ⊕ Bool)) (m_slices_EqualFunc_api_Block_api_Block_api_Block_api_Block_L1 a_s1 a_s2) (0 : Int)).bind (fun x5 => (match x5 with | (.inl _) => (some true) | (.inr r7) => (some r7)))))
theorem ok_slices_EqualFunc_api_Block_api_Block_api_Block_api_Block (a_s1 : List (TBlock)) (a_s2 : List (TBlock)) (r : Bool) (h : m_slices_EqualFunc_api_Block_api_Block_api_Block_api_Block a_s1 a_s2 = some r) : Spec Tryz.prog 29 [(AV.list 5 eTBlock (default : TBlock) a_s1 .none), (AV.list 5 eTBlock (default : TBlock) a_s2 .none), (.clo 30 [] [])] [] (.bool r) [] := by
  refine spec_of_awp (fn := Tryz.f29) Tryz.func29 rfl rfl (by kernel_rfl) (fun Γ hn hΓ => ?_)
  have hn : Γ.n = 32 := hn
  unfold m_slices_EqualFunc_api_Block_api_Block_api_Block_api_Block at h
  refine rgs0 (⟨[(0, (Q330 a_s1)), (1, (Q331 a_s2)), (2, (.clo 30 [] []))], []⟩ : St) hn mix (no_hand hΓ) (by kernel_rfl) ?_
  refine awp_seq ?_
  refine rgs0 (⟨[(0, (Q330 a_s1)), (1, (Q331 a_s2)), (2, (.clo 30 [] [])), (14, (.bool (((a_s1.length : Int) : Int) != (a_s2.length : Int))))], []⟩ : St) hn mix (no_hand hΓ) (by kernel_rfl) ?_
  refine awp_cond (((a_s1.length : Int) : Int) != (a_s2.length : Int)) (by kernel_rfl) (fun hb => ?_) (fun hb => ?_)
  · replace h := cond_t hb h
    clear hb
    refine rgs0 (⟨[(6, (.bool false))], []⟩ : St) hn mix (no_hand hΓ) (by kernel_rfl) ?_
    refine awp_ret ?_
    refine then_ret ?_
    obtain rfl := Option.some.inj h
    exact ⟨.inl rfl, [], by kernel_rfl⟩
  · replace h := cond_f hb h
    clear hb
    refine awp_skip ?_
    refine then_normal ?_
    refine awp_seq ?_
    refine rgs0 (⟨[(1, (Q331 a_s2)), (2, (.clo 30 [] [])), (15, (Q330 a_s1)), (16, (Q328 a_s1)), (17, (.int .i64 (0 : Int)))], []⟩ : St) hn mix (no_hand hΓ) (by kernel_rfl) ?_
    refine awp_block ?_
    refine awp_le (st' := (fun (i1 : Int) => (⟨[(1, (Q331 a_s2)), (2, (.clo 30 [] [])), (15, (Q330 a_s1)), (16, (Q328 a_s1)), (17, (.int .i64 i1))], []⟩ : St)) (0 : Int)) (Le.refl _ _) ?_
    obtain ⟨x5, hx5, h⟩ := bind_some h
    refine awp_loop (fun (i1 : Int) => (⟨[(1, (Q331 a_s2)), (2, (.clo 30 [] [])), (15, (Q330 a_s1)), (16, (Q328 a_s1)), (17, (.int .i64 i1))], []⟩ : St)) _ (fun (x_ : (Unit ⊕ Bool)) (e : Exit) (st : St) => match x_ with | (.inl _) => e = (.exit 0) ∧ Le Γ st (⟨[], []⟩ : St) | (.inr r_) => e = .ret ∧ retK Tryz.prog Tryz.f29.results.toList [] (.bool r_) [] e st) ?_ hx5 ?_
    · intro i1 y h
      unfold m_slices_EqualFunc_api_Block_api_Block_api_Block_api_Block_L1 at h
      refine rgs0 (⟨[(1, (Q331 a_s2)), (2, (.clo 30 [] [])), (15, (Q330 a_s1)), (16, (Q328 a_s1)), (17, (.int .i64 i1)), (18, (.bool (decide ((i1 : Int) < (a_s1.length : Int)))))], []⟩ : St) hn mix (no_hand hΓ) (by kernel_rfl) ?_
      refine awp_seq ?_
      refine awp_cond (decide ((i1 : Int) < (a_s1.length : Int))) (by kernel_rfl) (fun hb => ?_) (fun hb => ?_)
      · replace h := cond_t hb h
        clear hb
        refine awp_skip ?_
        refine then_normal ?_
        refine awp_seq ?_
        refine awp_block ?_
        obtain ⟨hc2, h⟩ := chk_some h
        refine rgs [] [] (⟨[(1, (Q331 a_s2)), (2, (.clo 30 [] [])), (7, (.int .i64 i1)), (8, (.ptr 8 0)), (15, (Q330 a_s1)), (16, (Q328 a_s1)), (17, (.int .i64 i1))], [(8, .row 47 (Q329 a_s1 i1))]⟩ : St) [(InB i1 a_s1.length)] hn mix (no_hand hΓ) (by kernel_rfl) ⟨hc2, trivial⟩ ?_
        obtain ⟨hc3, h⟩ := chk_some h
        refine rgs [] [] (⟨[(1, (Q331 a_s2)), (2, (.clo 30 [] [])), (8, (.ptr 8 0)), (9, (.ptr 9 0)), (15, (Q330 a_s1)), (16, (Q328 a_s1)), (17, (.int .i64 i1))], [(8, .row 47 (Q329 a_s1 i1)), (9, .row 47 [(AV.list 4 eTPhi (default : TPhi) (a_s2.getD (i1).toNat Q327).Phis .none), (AV.list 6 eTOp (default : TOp) (a_s2.getD (i1).toNat Q327).Ops .none), (.int .i64 (a_s2.getD (i1).toNat Q327).End.Kind), (.int .i64 (a_s2.getD (i1).toNat Q327).End.Arg), (AV.list 1 eI64 (0 : Int) (a_s2.getD (i1).toNat Q327).End.To .none)])]⟩ : St) [(InB i1 a_s2.length)] hn mix (no_hand hΓ) (by kernel_rfl) ⟨hc3, trivial⟩ ?_
        obtain ⟨x4, hx4, h⟩ := bind_some h
        refine rgs [⟨[], [], (.bool x4), []⟩] [] (⟨[(1, (Q331 a_s2)), (2, (.clo 30 [] [])), (15, (Q330 a_s1)), (16, (Q328 a_s1)), (17, (.int .i64 i1)), (30, (.bool (!x4)))], []⟩ : St) [(Spec Tryz.prog 30 [(.agg (eTBlock (a_s1.getD (i1).toNat Q327))), (.agg (eTBlock (a_s2.getD (i1).toNat Q327)))] [] (.bool x4) [])] hn mix (no_hand hΓ) (by kernel_rfl) ⟨(ok_code_sameBlock (a_s1.getD (i1).toNat Q327) (a_s2.getD (i1).toNat Q327) x4 hx4), trivial⟩ ?_
        refine awp_cond (!x4) (by kernel_rfl) (fun hb => ?_) (fun hb => ?_)
        · replace h := cond_t hb h
          clear hb
          refine rgs0 (⟨[(6, (.bool false))], []⟩ : St) hn mix (no_hand hΓ) (by kernel_rfl) ?_
          refine awp_ret ?_
          refine block_ret ?_
          refine then_ret ?_
          obtain rfl := Option.some.inj h
          exact ⟨(by intro hh; cases hh), rfl, ⟨.inl rfl, [], by kernel_rfl⟩⟩
        · replace h := cond_f hb h
          clear hb
          refine awp_skip ?_
          refine block_normal ?_
          refine then_normal ?_
          refine rg0 (⟨[(1, (Q331 a_s2)), (2, (.clo 30 [] [])), (15, (Q330 a_s1)), (16, (Q328 a_s1)), (17, (.int .i64 (w64 (i1 + (1 : Int)))))], []⟩ : St) hn mix (no_hand hΓ) (by kernel_rfl) ?_
          obtain rfl := Option.some.inj h
          exact ⟨rfl, Le.refl _ _⟩
      · replace h := cond_f hb h
        clear hb
        refine awp_exit ?_
        refine then_exit ?_
        obtain rfl := Option.some.inj h
        exact ⟨(by intro hh; cases hh), rfl, le_restrict_eq [] [] (by kernel_rfl) (no_hand hΓ)⟩
    · clear hx5
      rcases x5 with _ | r7
      · rintro e st' ⟨rfl, hl6⟩
        refine block_here ?_
        refine then_normal ?_
        refine awp_le hl6 ?_
        refine rgs0 (⟨[(6, (.bool true))], []⟩ : St) hn mix (no_hand hΓ) (by kernel_rfl) ?_
        refine awp_ret ?_
        obtain rfl := Option.some.inj h
        exact ⟨.inl rfl, [], by kernel_rfl⟩
      · rintro e st' ⟨rfl, hk⟩
        refine block_ret ?_
        refine then_ret ?_
        obtain rfl := Option.some.inj h
        exact hk

noncomputable def Q333 (a_a : TFunc) (a_b : TFunc) := (((a_a.Ret : Int) == a_b.Ret) == true)
noncomputable def Q332 (a_a : TFunc) (a_b : TFunc) (x1 : Bool) := ((bif ((a_a.Ret : Int) == a_b.Ret) then x1 else false) == true)
noncomputable def m_code_Same (a_a : TFunc) (a_b : TFunc) : Option Bool :=
  ((bif (((a_a.Ret : Int) == a_b.Ret) == true) then m_slices_Equal_int_int a_a.Params a_b.Params else some false).bind fun x1 => ((bif ((bif ((a_a.Ret : Int) == a_b.Ret) then x1 else false) == true) then m_slices_EqualFunc_api_Block_api_Block_api_Block_api_Block a_a.Blocks a_b.Blocks else some false).bind fun x2 => (some (bif (bif ((a_a.Ret : Int) == a_b.Ret) then x1 else false) then x2 else false))))
theorem ok_code_Same (a_a : TFunc) (a_b : TFunc) (r : Bool) (h : m_code_Same a_a a_b = some r) : Spec Tryz.prog 10 [(.agg (eTFunc a_a)), (.agg (eTFunc a_b))] [] (.bool r) [] := by
  refine spec_of_awp (fn := Tryz.f10) Tryz.func10 rfl rfl (by kernel_rfl) (fun Γ hn hΓ => ?_)
  have hn : Γ.n = 24 := hn
  unfold m_code_Same at h
  refine rgs0 (⟨[(2, (.ptr 2 0)), (3, (.ptr 3 0))], [(2, .row 25 [(AV.list 1 eI64 (0 : Int) a_a.Params .none), (.int .i64 a_a.Ret), (AV.list 5 eTBlock (default : TBlock) a_a.Blocks .none)]), (3, .row 25 [(AV.list 1 eI64 (0 : Int) a_b.Params .none), (.int .i64 a_b.Ret), (AV.list 5 eTBlock (default : TBlock) a_b.Blocks .none)])]⟩ : St) hn mix (no_hand hΓ) (by kernel_rfl) ?_
  obtain ⟨x1, hx1, h⟩ := bind_some h
  obtain ⟨x2, hx2, h⟩ := bind_some h
  refine rgs [⟨[], [], (.bool x1), []⟩, ⟨[], [], (.bool x2), []⟩] [] (⟨[(4, (.bool (bif (bif ((a_a.Ret : Int) == a_b.Ret) then x1 else false) then x2 else false)))], []⟩ : St) [((Q333 a_a a_b) = true → (Q333 a_a a_b) = true), ((Q333 a_a a_b) = true → (Q333 a_a a_b) = true), ((Q333 a_a a_b) = true → (Q333 a_a a_b) = true), ((Q333 a_a a_b) = true → (Q333 a_a a_b) = true), ((Q333 a_a a_b) = true → (Spec Tryz.prog 28 [(AV.list 1 eI64 (0 : Int) a_a.Params .none), (AV.list 1 eI64 (0 : Int) a_b.Params .none)] [] (.bool x1) [])), (((a_a.Ret : Int) == a_b.Ret) = true → (Q333 a_a a_b) = true), ((Q332 a_a a_b x1) = true → (Q332 a_a a_b x1) = true), ((Q332 a_a a_b x1) = true → (Q332 a_a a_b x1) = true), ((Q332 a_a a_b x1) = true → (Q332 a_a a_b x1) = true), ((Q332 a_a a_b x1) = true → (Q332 a_a a_b x1) = true), ((Q332 a_a a_b x1) = true → (Spec Tryz.prog 29 [(AV.list 5 eTBlock (default : TBlock) a_a.Blocks .none), (AV.list 5 eTBlock (default : TBlock) a_b.Blocks .none), (.clo 30 [] [])] [] (.bool x2) [])), ((bif ((a_a.Ret : Int) == a_b.Ret) then x1 else false) = true → (Q332 a_a a_b x1) = true)] hn mix (no_hand hΓ) (by kernel_rfl) ⟨(fun hg => hg), (fun hg => hg), (fun hg => hg), (fun hg => hg), (fun hg => (ok_slices_Equal_int_int a_a.Params a_b.Params x1 (cond_t hg hx1))), gT, (fun hg => hg), (fun hg => hg), (fun hg => hg), (fun hg => hg), (fun hg => (ok_slices_EqualFunc_api_Block_api_Block_api_Block_api_Block a_a.Blocks a_b.Blocks x2 (cond_t hg hx2))), gT, trivial⟩ ?_
  refine awp_ret ?_
  obtain rfl := Option.some.inj h
  exact ⟨.inl rfl, [], by kernel_rfl⟩

noncomputable def Q334 (x5 : (TFunc × Int)) (x6 : (TFunc × Int)) := (bif ((x5.2 : Int) == (0 : Int)) then ((x6.2 : Int) == (0 : Int)) else false)
noncomputable def Q337 (x5 : (TFunc × Int)) (x6 : (TFunc × Int)) (x7 : Bool) := (bif (Q334 x5 x6) then x7 else false)
noncomputable def Q335 (a_f : TFunc) : List AV := [(AV.list 1 eI64 (0 : Int) a_f.Params .none), (.int .i64 a_f.Ret), (AV.list 5 eTBlock (default : TBlock) a_f.Blocks .none)]
noncomputable def Q336 (x5 : (TFunc × Int)) : List AV := [(AV.list 1 eI64 (0 : Int) x5.1.Params .none), (.int .i64 x5.1.Ret), (AV.list 5 eTBlock (default : TBlock) x5.1.Blocks .none)]
noncomputable def m_locksteplaw05_TextBytes (a_f : TFunc) : Option Bool :=
  ((m_locksteplaw05_awake).bind fun x1 => (bif (!x1) then (some false) else ((m_lockstepref04_Small a_f).bind fun x2 => (bif (!x2) then (some true) else ((m_text_Print a_f).bind fun x3 => ((m_code_Encode a_f).bind fun x4 => (bif ((x3.2 : Int) != (0 : Int)) then (some (bif ((x3.2 : Int) == (1 : Int)) then ((x3.1 : List Int) == ([] : List Int)) else false)) else ((m_text_Parse x3.1).bind fun x5 => ((m_code_Decode x4).bind fun x6 => ((bif ((bif ((x5.2 : Int) == (0 : Int)) then ((x6.2 : Int) == (0 : Int)) else false) == true) then m_code_Same x5.1 x6.1 else some false).bind fun x7 => ((bif ((bif (bif ((x5.2 : Int) == (0 : Int)) then ((x6.2 : Int) == (0 : Int)) else false) then x7 else false) == true) then m_code_Same x5.1 a_f else some false).bind fun x8 => (some (bif (bif (bif ((x5.2 : Int) == (0 : Int)) then ((x6.2 : Int) == (0 : Int)) else false) then x7 else false) then x8 else false)))))))))))))
theorem ok_locksteplaw05_TextBytes (a_f : TFunc) (r : Bool) (h : m_locksteplaw05_TextBytes a_f = some r) : Spec Tryz.prog 3 [(.agg (eTFunc a_f))] [] (.bool r) [] := by
  refine spec_of_awp (fn := Tryz.f3) Tryz.func3 rfl rfl (by kernel_rfl) (fun Γ hn hΓ => ?_)
  have hn : Γ.n = 56 := hn
  unfold m_locksteplaw05_TextBytes at h
  refine rgs0 (⟨[(1, (.ptr 1 0))], [(1, .row 25 (Q335 a_f))]⟩ : St) hn mix (no_hand hΓ) (by kernel_rfl) ?_
  refine awp_seq ?_
  obtain ⟨x1, hx1, h⟩ := bind_some h
  refine rgs [⟨[], [], (.bool x1), []⟩] [] (⟨[(1, (.ptr 1 0)), (11, (.bool (!x1)))], [(1, .row 25 (Q335 a_f))]⟩ : St) [(Spec Tryz.prog 4 [] [] (.bool x1) [])] hn mix (no_hand hΓ) (by kernel_rfl) ⟨(ok_locksteplaw05_awake  x1 hx1), trivial⟩ ?_
  refine awp_cond (!x1) (by kernel_rfl) (fun hb => ?_) (fun hb => ?_)
  · replace h := cond_t hb h
    clear hb
    refine rgs0 (⟨[(2, (.bool false))], []⟩ : St) hn mix (no_hand hΓ) (by kernel_rfl) ?_
    refine awp_ret ?_
    refine then_ret ?_
    obtain rfl := Option.some.inj h
    exact ⟨.inl rfl, [], by kernel_rfl⟩
  · replace h := cond_f hb h
    clear hb
    refine awp_skip ?_
    refine then_normal ?_
    refine awp_seq ?_
    obtain ⟨x2, hx2, h⟩ := bind_some h
    refine rgs [⟨[], [], (.bool x2), []⟩] [] (⟨[(1, (.ptr 1 0)), (14, (.bool (!x2)))], [(1, .row 25 (Q335 a_f))]⟩ : St) [(Spec Tryz.prog 5 [(.agg (eTFunc a_f))] [] (.bool x2) [])] hn mix (no_hand hΓ) (by kernel_rfl) ⟨(ok_lockstepref04_Small a_f x2 hx2), trivial⟩ ?_
    refine awp_cond (!x2) (by kernel_rfl) (fun hb => ?_) (fun hb => ?_)
    · replace h := cond_t hb h
      clear hb
      refine rgs0 (⟨[(2, (.bool true))], []⟩ : St) hn mix (no_hand hΓ) (by kernel_rfl) ?_
      refine awp_ret ?_
      refine then_ret ?_
      obtain rfl := Option.some.inj h
      exact ⟨.inl rfl, [], by kernel_rfl⟩
    · replace h := cond_f hb h
      clear hb
      refine awp_skip ?_
      refine then_normal ?_
      obtain ⟨x3, hx3, h⟩ := bind_some h
      refine rgs [⟨[], [], (.tuple [(.str x3.1), (.int .i64 x3.2)]), []⟩] [] (⟨[(1, (.ptr 1 0)), (3, (.str x3.1)), (4, (.int .i64 x3.2))], [(1, .row 25 (Q335 a_f))]⟩ : St) [(Spec Tryz.prog 6 [(.agg (eTFunc a_f))] [] (.tuple [(.str x3.1), (.int .i64 x3.2)]) [])] hn mix (no_hand hΓ) (by kernel_rfl) ⟨(ok_text_Print a_f x3 hx3), trivial⟩ ?_
      obtain ⟨x4, hx4, h⟩ := bind_some h
      refine rgs [⟨[], [(20000, 21)], (AV.list 1 eU8 (0 : Int) x4 (.own 20000)), [(20000, .tok 1 5 x4.length)]⟩] [] (⟨[(1, (.ptr 1 0)), (3, (.str x3.1)), (4, (.int .i64 x3.2)), (5, (AV.list 1 eU8 (0 : Int) x4 (.own 21)))], [(1, .row 25 (Q335 a_f)), (21, .tok 1 5 x4.length)]⟩ : St) [(Spec Tryz.prog 7 [(.agg (eTFunc a_f))] [] (AV.list 1 eU8 (0 : Int) x4 (.own 20000)) [(20000, .tok 1 5 x4.length)])] hn mix (no_hand hΓ) (by kernel_rfl) ⟨(ok_code_Encode a_f x4 hx4), trivial⟩ ?_
      refine awp_seq ?_
      refine rgs0 (⟨[(1, (.ptr 1 0)), (3, (.str x3.1)), (4, (.int .i64 x3.2)), (5, (AV.list 1 eU8 (0 : Int) x4 (.own 21))), (23, (.bool ((x3.2 : Int) != (0 : Int))))], [(1, .row 25 (Q335 a_f)), (21, .tok 1 5 x4.length)]⟩ : St) hn mix (no_hand hΓ) (by kernel_rfl) ?_
      refine awp_cond ((x3.2 : Int) != (0 : Int)) (by kernel_rfl) (fun hb => ?_) (fun hb => ?_)
      · replace h := cond_t hb h
        clear hb
        refine rgs [] [] (⟨[(2, (.bool (bif ((x3.2 : Int) == (1 : Int)) then ((x3.1 : List Int) == ([] : List Int)) else false)))], []⟩ : St) [((((x3.2 : Int) == (1 : Int)) == true) = true → (((x3.2 : Int) == (1 : Int)) == true) = true), (((x3.2 : Int) == (1 : Int)) = true → (((x3.2 : Int) == (1 : Int)) == true) = true)] hn mix (no_hand hΓ) (by kernel_rfl) ⟨(fun hg => hg), gT, trivial⟩ ?_
        refine awp_ret ?_
        refine then_ret ?_
        obtain rfl := Option.some.inj h
        exact ⟨.inl rfl, [], by kernel_rfl⟩
      · replace h := cond_f hb h
        clear hb
        refine awp_skip ?_
        refine then_normal ?_
        obtain ⟨x5, hx5, h⟩ := bind_some h
        refine rgs [⟨[], [], (.tuple [(.agg (eTFunc x5.1)), (.int .i64 x5.2)]), []⟩] [] (⟨[(1, (.ptr 1 0)), (5, (AV.list 1 eU8 (0 : Int) x4 (.own 21))), (6, (.ptr 6 0)), (7, (.int .i64 x5.2))], [(1, .row 25 (Q335 a_f)), (6, .row 25 (Q336 x5)), (21, .tok 1 5 x4.length)]⟩ : St) [(Spec Tryz.prog 8 [(.str x3.1)] [] (.tuple [(.agg (eTFunc x5.1)), (.int .i64 x5.2)]) [])] hn mix (no_hand hΓ) (by kernel_rfl) ⟨(ok_text_Parse x3.1 x5 hx5), trivial⟩ ?_
        obtain ⟨x6, hx6, h⟩ := bind_some h
        refine rgs [⟨[], [], (.tuple [(.agg (eTFunc x6.1)), (.int .i64 x6.2)]), []⟩] [] (⟨[(1, (.ptr 1 0)), (6, (.ptr 6 0)), (7, (.int .i64 x5.2)), (8, (.ptr 8 0)), (9, (.int .i64 x6.2))], [(1, .row 25 (Q335 a_f)), (6, .row 25 (Q336 x5)), (8, .row 25 [(AV.list 1 eI64 (0 : Int) x6.1.Params .none), (.int .i64 x6.1.Ret), (AV.list 5 eTBlock (default : TBlock) x6.1.Blocks .none)])]⟩ : St) [(Spec Tryz.prog 9 [(AV.list 1 eU8 (0 : Int) x4 .none)] [] (.tuple [(.agg (eTFunc x6.1)), (.int .i64 x6.2)]) [])] hn mix (no_hand hΓ) (by kernel_rfl) ⟨(ok_code_Decode x4 x6 hx6), trivial⟩ ?_
        obtain ⟨x7, hx7, h⟩ := bind_some h
        obtain ⟨x8, hx8, h⟩ := bind_some h
        refine rgs [⟨[], [], (.bool x7), []⟩, ⟨[], [], (.bool x8), []⟩] [] (⟨[(2, (.bool (bif (Q337 x5 x6 x7) then x8 else false)))], []⟩ : St) [((((x5.2 : Int) == (0 : Int)) == true) = true → (((x5.2 : Int) == (0 : Int)) == true) = true), (((x5.2 : Int) == (0 : Int)) = true → (((x5.2 : Int) == (0 : Int)) == true) = true), (((Q334 x5 x6) == true) = true → ((Q334 x5 x6) == true) = true), (((Q334 x5 x6) == true) = true → ((Q334 x5 x6) == true) = true), (((Q334 x5 x6) == true) = true → (Spec Tryz.prog 10 [(.agg (eTFunc x5.1)), (.agg (eTFunc x6.1))] [] (.bool x7) [])), ((Q334 x5 x6) = true → ((Q334 x5 x6) == true) = true), (((Q337 x5 x6 x7) == true) = true → ((Q337 x5 x6 x7) == true) = true), (((Q337 x5 x6 x7) == true) = true → ((Q337 x5 x6 x7) == true) = true), (((Q337 x5 x6 x7) == true) = true → (Spec Tryz.prog 10 [(.agg (eTFunc x5.1)), (.agg (eTFunc a_f))] [] (.bool x8) [])), ((Q337 x5 x6 x7) = true → ((Q337 x5 x6 x7) == true) = true)] hn mix (no_hand hΓ) (by kernel_rfl) ⟨(fun hg => hg), gT, (fun hg => hg), (fun hg => hg), (fun hg => (ok_code_Same x5.1 x6.1 x7 (cond_t hg hx7))), gT, (fun hg => hg), (fun hg => hg), (fun hg => (ok_code_Same x5.1 a_f x8 (cond_t hg hx8))), gT, trivial⟩ ?_
        refine awp_ret ?_
        obtain rfl := Option.some.inj h
        exact ⟨.inl rfl, [], by kernel_rfl⟩
end Go.Proofs.YtcddajbcbkbipaaGreatDoor

namespace Go.Proofs.YtcddajbcbkbipaaGreatDoor
open Go Go.RowKit

/-- A slice of numbers that came in. -/
theorem rep_row {k : IntKind} {e : Int → List AV} {d : Int} (he : ∀ x, e x = [.int k x]) {w : World} {a : Option Addr} {len cap : Nat} {zs : List Int}
    (h : (a = none ∧ len = 0 ∧ cap = 0 ∧ zs = []) ∨ ∃ x, a = some x ∧ len ≤ cap ∧ cap ≤ maxLen ∧ zs.length = cap ∧ (∀ i, i < zs.length → w.cell? (x.add i) = some (.int k (zs.getD i 0))) ∧ ∀ n ∈ zs, (Lit.int k n).wf = true) :
    Rep (fun b o => ∃ u, w.cell? ⟨b, o, none⟩ = some u) (look []) (fun _ => none) w (.slice a len cap) (AV.list 1 e d (zs.take len) .none) := by
  rcases h with ⟨rfl, rfl, rfl, rfl⟩ | ⟨x, rfl, hl, hm, hz, hc, _⟩
  · exact .val _ _ (.slice none 0 0 1 _ (fun _ => undef) (Nat.le_refl _) (by simp) (fun h => by simp at h) (fun _ => rfl) (fun j hj => by simp at hj) (fun i hi => by simp at hi) (fun i c hi => by simp at hi))
  · have hlen : (zs.take len).length = len := by simp; omega
    have hcell : x.spot = none → ∀ j, j < zs.length → w.cell? ⟨x.block, x.off + j, none⟩ = some (.int k (zs.getD j 0)) := fun hs j hj => by
      have := hc j hj
      rw [Addr.add] at this
      split at this
      · rename_i h0
        subst h0
        obtain ⟨b, o, s⟩ := x
        simp only at hs
        subst hs
        exact this
      · exact this
    unfold AV.list
    rw [hlen]
    refine .val _ _ (.slice (some x) len cap 1 _ (fun j => .int k (zs.getD j 0)) hl hm (fun h => ?_) (fun h => by cases h) (fun j _ => rfl) (fun i _ => by rw [he]; rfl) (fun i c hi hcc => ?_))
    · have hs : x.spot = none := by
        have := hc 0 (by omega)
        have h2 := World.cell?_spot this
        simpa [Addr.add] using h2
      exact ⟨x, rfl, hs, fun j hj => ⟨_, hcell hs j (by omega)⟩, fun j hj => hcell hs j (by omega)⟩
    · obtain rfl : c = 0 := by omega
      rw [he]
      have e1 : (zs.take len).getD i d = zs.getD i 0 := by
        have : i < zs.length := by omega
        simp [List.getD, hi, this]
      rw [e1]
      simp only [Nat.mul_one, Nat.add_zero]
      exact .int _ _
theorem row_wf {k : IntKind} {w : World} {a : Option Addr} {len cap : Nat} {zs : List Int}
    (h : (a = none ∧ len = 0 ∧ cap = 0 ∧ zs = []) ∨ ∃ x, a = some x ∧ len ≤ cap ∧ cap ≤ maxLen ∧ zs.length = cap ∧ (∀ i, i < zs.length → w.cell? (x.add i) = some (.int k (zs.getD i 0))) ∧ ∀ n ∈ zs, (Lit.int k n).wf = true) :
    ∀ n ∈ zs.take len, (Lit.int k n).wf = true := fun n hn => by
  have hn := List.mem_of_mem_take hn
  rcases h with ⟨_, _, _, rfl⟩ | ⟨_, _, _, _, _, _, h⟩
  · cases hn
  · exact h n hn
theorem wf_u64 {n : Int} (h : (Lit.int .u64 n).wf = true) : 0 ≤ n ∧ n < 18446744073709551616 := by simp [Lit.wf, IntKind.min, IntKind.max, IntKind.bits, IntKind.signed] at h; omega
theorem wf_u32 {n : Int} (h : (Lit.int .u32 n).wf = true) : 0 ≤ n ∧ n < 4294967296 := by simp [Lit.wf, IntKind.min, IntKind.max, IntKind.bits, IntKind.signed] at h; omega
theorem wf_u8 {n : Int} (h : (Lit.int .u8 n).wf = true) : 0 ≤ n ∧ n < 256 := by simp [Lit.wf, IntKind.min, IntKind.max, IntKind.bits, IntKind.signed] at h; omega
theorem wf_i64 {n : Int} (h : (Lit.int .i64 n).wf = true) : -9223372036854775808 ≤ n ∧ n < 9223372036854775808 := by simp [Lit.wf, IntKind.min, IntKind.max, IntKind.bits, IntKind.signed] at h; omega
theorem wf_u16 {n : Int} (h : (Lit.int .u16 n).wf = true) : 0 ≤ n ∧ n < 65536 := by simp [Lit.wf, IntKind.min, IntKind.max, IntKind.bits, IntKind.signed] at h; omega
end Go.Proofs.YtcddajbcbkbipaaGreatDoor

namespace Go.Proofs.YtcddajbcbkbipaaGreatDoor
open Go Go.RowKit
set_option linter.unusedVariables false

/-- The cells that there are. -/
abbrev Iall (w : World) : Nat → Nat → Prop := fun b o => ∃ u, w.cell? ⟨b, o, none⟩ = some u
structure CRep (w : World) (cs : List Value) (avs : List AV) : Prop where
  len : cs.length = avs.length
  one : ∀ j, j < avs.length → (cs.getD j undef).oneCell' = true
  rep : ∀ j, j < avs.length → RepV (Iall w) w (cs.getD j undef) (avs.getD j .any)
structure Opens (P : Program) (t : TypeId) {α : Type} (e : α → List AV) (ok : α → Prop) : Prop where
  get : ∀ {H : Type} {enc : TypeId × Value → H} {w : World} {base : Nat} {spare : Nat → Bool} {held : Bool} {fuel : Nat} {cs : List Value} {x : DataW H × List MemPlace},
    DataW.trod enc P w base spare held fuel t cs = some x → ∃ a, ok a ∧ CRep w cs (e a)

theorem crep_one {w : World} {v : Value} {x : AV} (h1 : v.oneCell' = true) (h : RepV (Iall w) w v x) : CRep w [v] [x] :=
  ⟨rfl, fun j hj => (by
      have hj0 : j = 0 := by simpa using hj
      subst hj0
      exact h1), fun j hj => (by
      have hj0 : j = 0 := by simpa using hj
      subst hj0
      exact h)⟩
theorem opens_int {P : Program} {t : TypeId} {k : IntKind} {e : Int → List AV} (ht : P.underlying t = some (.int k)) (he : ∀ n, e n = [.int k n]) : Opens P t e (fun n => (Lit.int k n).wf = true) := by
  refine ⟨?_⟩
  intro H enc w base spare held fuel cs x h
  obtain ⟨n, rfl, rfl, hw⟩ := DataW.trod_int ht h
  exact ⟨n, hw, by rw [he]; exact crep_one rfl (.int _ _)⟩
theorem opens_bool {P : Program} {t : TypeId} {e : Bool → List AV} (ht : P.underlying t = some .bool) (he : ∀ n, e n = [.bool n]) : Opens P t e (fun _ => True) := by
  refine ⟨?_⟩
  intro H enc w base spare held fuel cs x h
  obtain ⟨n, rfl, rfl⟩ := DataW.trod_bool ht h
  exact ⟨n, trivial, by rw [he]; exact crep_one rfl (.bool _)⟩
theorem opens_string {P : Program} {t : TypeId} {e : List Int → List AV} (ht : P.underlying t = some .string) (he : ∀ n, e n = [.str n]) : Opens P t e (fun s => (∀ x ∈ s, 0 ≤ x ∧ x < 256) ∧ s.length ≤ maxLen) := by
  refine ⟨?_⟩
  intro H enc w base spare held fuel cs x h
  obtain ⟨s, rfl, rfl, hs⟩ := DataW.trod_string ht h
  exact ⟨bytesI s, ⟨bytesI_byte s, by rw [bytesI_length]; exact hs⟩, by rw [he]; exact crep_one rfl (.str _)⟩

theorem cells?_get {w : World} {base : Nat} {a : Addr} {n : Nat} {cs : List Value} (h : w.cells? base a n = some cs) : cs.length = n ∧ ∀ i, i < n → w.cell? (a.add i) = some (cs.getD i undef) := by
  unfold World.cells? at h
  split at h
  · have hl := mapM_some_length h
    simp at hl
    refine ⟨hl, fun i hi => ?_⟩
    have := mapM_some_get h i i (by simp [hi])
    rw [this]
    simp [List.getD, show i < cs.length by omega]
  · cases h

theorem opens_slice {P : Program} {t el : TypeId} {α : Type} {e : α → List AV} {ok : α → Prop} {sz : Nat} {d : α} {e' : List α → List AV} (ht : P.underlying t = some (.slice el)) (hs : P.cellsOf el = sz) (h1 : 1 ≤ sz) (he : Opens P el e ok) (hlen : ∀ a, (e a).length = sz)
    (he' : ∀ l, e' l = [AV.list sz e d l .none]) : Opens P t e' (fun l => (∀ a ∈ l, ok a) ∧ l.length ≤ maxLen) := by
  refine ⟨?_⟩
  intro H enc w base spare held fuel cs x h
  rcases DataW.trod_slice ht h with ⟨rfl, rfl⟩ | ⟨a, len, cap, elems, rest, n, _, rfl, rfl, hb, hl, hm, hlen2, hel, _⟩
  · exact ⟨[], ⟨by simp, by simp⟩, by rw [he']; exact crep_one rfl (.slice none 0 0 sz _ (fun _ => undef) (Nat.le_refl _) (by simp) (fun h => by simp at h) (fun _ => rfl) (fun j hj => by simp at hj) (fun i hi => by simp at hi) (fun i c hi => by simp at hi))⟩
  · have each : ∀ i : Fin len, ∃ b, ok b ∧ ∃ cs, w.cells? base (a.add (i.1 * sz)) sz = some cs ∧ CRep w cs (e b) := fun ⟨i, hi⟩ => by
      have := hel i hi
      rw [hs, List.getElem?_eq_getElem (by omega), Option.bind_eq_some_iff] at this
      obtain ⟨cs, hcs, htr⟩ := this
      obtain ⟨b, hb, hr⟩ := he.get htr
      exact ⟨b, hb, cs, hcs, hr⟩
    let f : Fin len → α := fun i => (each i).choose
    have hf : ∀ i, ok (f i) ∧ ∃ cs, w.cells? base (a.add (i.1 * sz)) sz = some cs ∧ CRep w cs (e (f i)) := fun i => (each i).choose_spec
    have hlf : (List.ofFn f).length = len := by simp
    refine ⟨List.ofFn f, ⟨fun b hb => ?_, by simp; omega⟩, ?_⟩
    · obtain ⟨i, rfl⟩ := List.mem_ofFn.1 hb
      exact (hf i).1
    rw [he']
    refine crep_one rfl ?_
    have hcell0 : ∀ i (hi : i < len), ∀ c, c < sz → ∃ u, w.cell? ((a.add (i * sz)).add c) = some u ∧ u.oneCell' = true ∧ RepV (Iall w) w u ((e (f ⟨i, hi⟩)).getD c .any) := fun i hi c hc => by
      obtain ⟨_, cs, hcs, hr⟩ := hf ⟨i, hi⟩
      obtain ⟨hl, hg⟩ := cells?_get hcs
      exact ⟨_, hg c hc, hr.one c (by rw [hlen]; exact hc), hr.rep c (by rw [hlen]; exact hc)⟩
    have hspot : 0 < len → a.spot = none := fun hp => by
      obtain ⟨u, hu, _⟩ := hcell0 0 hp 0 h1
      have h2 := World.cell?_spot hu
      simpa [Addr.add] using h2
    have hcell : ∀ i (hi : i < len), ∀ c, c < sz → ∃ u, w.cell? ⟨a.block, a.off + (i * sz + c), none⟩ = some u ∧ u.oneCell' = true ∧ RepV (Iall w) w u ((e (f ⟨i, hi⟩)).getD c .any) := fun i hi c hc => by
      obtain ⟨u, hu, h1, h2⟩ := hcell0 i hi c hc
      have hsp := hspot (by omega)
      rw [add_none hsp, Addr.add_lit] at hu
      exact ⟨u, by rw [← Nat.add_assoc]; exact hu, h1, h2⟩
    have hdm : ∀ j, j < len * sz → ∃ i c, i < len ∧ c < sz ∧ j = i * sz + c := fun j hj => by
      refine ⟨j / sz, j % sz, (Nat.div_lt_iff_lt_mul (by omega)).2 hj, Nat.mod_lt _ (by omega), ?_⟩
      rw [Nat.mul_comm]; exact (Nat.div_add_mod j sz).symm
    unfold AV.list
    rw [hlf]
    refine .slice (some a) len cap sz _ (fun j => (w.cell? ⟨a.block, a.off + j, none⟩).getD undef) hl hm (fun hp => ⟨a, rfl, hspot hp, fun j hj => ?_, fun j hj => ?_⟩) (fun h => by cases h) (fun j hj => ?_) (fun i hi => hlen _) (fun i c hi hc => ?_)
    · obtain ⟨i, c, hi, hc, rfl⟩ := hdm j hj
      obtain ⟨u, hu, _⟩ := hcell i hi c hc
      exact ⟨u, hu⟩
    · obtain ⟨i, c, hi, hc, rfl⟩ := hdm j hj
      obtain ⟨u, hu, _⟩ := hcell i hi c hc
      rw [hu]; rfl
    · obtain ⟨i, c, hi, hc, rfl⟩ := hdm j hj
      obtain ⟨u, hu, h1, _⟩ := hcell i hi c hc
      simp only [hu]; exact h1
    · obtain ⟨u, hu, _, h2⟩ := hcell i hi c hc
      have e1 : (List.ofFn f).getD i d = f ⟨i, hi⟩ := by simp [List.getD, hi]
      rw [e1, hu]
      exact h2

/-- Fields, from a place on. -/
structure OpensF (P : Program) (fs : List Field) (off N : Nat) {α : Type} (e : α → List AV) (ok : α → Prop) : Prop where
  get : ∀ {H : Type} {enc : TypeId × Value → H} {w : World} {base : Nat} {spare : Nat → Bool} {held : Bool} {n : Nat} {cs : List Value}, cs.length = N →
    (∀ f ∈ fs, ∃ x, DataW.trod enc P w base spare held n f.type ((cs.drop f.offset).take (P.cellsOf f.type)) = some x) → ∃ a, ok a ∧ CRep w (cs.drop off) (e a)
theorem opensF_nil {P : Program} {N : Nat} : OpensF P [] N N (fun _ : Unit => []) (fun _ => True) := by
  refine ⟨?_⟩
  intro H enc w base spare held n cs hN _
  rw [List.drop_eq_nil_of_le (by omega)]
  exact ⟨(), trivial, rfl, (fun j hj => by simp at hj), (fun j hj => by simp at hj)⟩
theorem opensF_cons {P : Program} {f : Field} {fs : List Field} {off sz N : Nat} {α β : Type} {e : α → List AV} {ok : α → Prop} {e' : β → List AV} {ok' : β → Prop} (hoff : f.offset = off) (hsz : P.cellsOf f.type = sz) (hle : off + sz ≤ N)
    (h : Opens P f.type e ok) (h' : OpensF P fs (off + sz) N e' ok') : OpensF P (f :: fs) off N (fun p : α × β => e p.1 ++ e' p.2) (fun p => ok p.1 ∧ ok' p.2) := by
  refine ⟨?_⟩
  intro H enc w base spare held n cs hN hall
  obtain ⟨x, hx⟩ := hall f (by simp)
  rw [hoff, hsz] at hx
  obtain ⟨a, ha, hr⟩ := h.get hx
  obtain ⟨b, hb, hr'⟩ := h'.get hN (fun g hg => hall g (by simp [hg]))
  have hl : (e a).length = sz := by rw [← hr.len]; simp; omega
  have hl' : (e' b).length = N - (off + sz) := by rw [← hr'.len]; simp; omega
  have hsplit : cs.drop off = (cs.drop off).take sz ++ cs.drop (off + sz) := by rw [← List.drop_drop]; exact (List.take_append_drop sz _).symm
  have hl2 : ((cs.drop off).take sz).length = sz := by simp; omega
  refine ⟨(a, b), ⟨ha, hb⟩, ?_, fun j hj => ?_, fun j hj => ?_⟩
  · simp [hl, hl']; omega
  · rw [hsplit]
    replace hj : j < (e a ++ e' b).length := hj
    show _
    by_cases hlt : j < sz
    · have := hr.one j (by omega)
      rwa [List.getD, List.getElem?_append_left (by omega)]
    · have := hr'.one (j - sz) (by simp at hj; omega)
      rwa [List.getD, List.getElem?_append_right (by omega), hl2]
  · rw [hsplit]
    replace hj : j < (e a ++ e' b).length := hj
    show RepV (Iall w) w _ ((e a ++ e' b).getD j .any)
    by_cases hlt : j < sz
    · have := hr.rep j (by omega)
      rwa [List.getD, List.getElem?_append_left (by omega), List.getD, List.getElem?_append_left (by omega)]
    · have := hr'.rep (j - sz) (by simp at hj; omega)
      rwa [List.getD, List.getElem?_append_right (by omega), hl2, List.getD, List.getElem?_append_right (by omega), hl]
theorem opens_struct {P : Program} {t : TypeId} {fs : Array Field} {N : Nat} {α : Type} {e : α → List AV} {ok : α → Prop} (ht : P.underlying t = some (.struct fs)) (hN : P.cellsOf t = N) (h : OpensF P fs.toList 0 N e ok) : Opens P t e ok := by
  refine ⟨?_⟩
  intro H enc w base spare held fuel cs x hx
  obtain ⟨xs, n, _, _, hl, hxl, hall⟩ := DataW.trod_struct ht hx
  have := h.get (n := n) (hl.trans hN) (enc := enc) (w := w) (base := base) (spare := spare) (held := held) (fun f hf => by
    obtain ⟨i, hi, rfl⟩ := List.mem_iff_getElem.1 hf
    have hi' : i < fs.size := by simpa using hi
    have := hall i fs.toList[i] (by simp [hi'])
    rw [List.getElem?_eq_getElem (by omega)] at this
    exact ⟨_, this⟩)
  simpa using this
theorem Opens.to {P : Program} {t : TypeId} {α β : Type} {e : α → List AV} {ok : α → Prop} (h : Opens P t e ok) {e' : β → List AV} {ok' : β → Prop} (g : α → β) (he : ∀ a, e' (g a) = e a) (hok : ∀ a, ok a → ok' (g a)) : Opens P t e' ok' := by
  refine ⟨?_⟩
  intro H enc w base spare held fuel cs x hx
  obtain ⟨a, ha, hr⟩ := h.get hx
  exact ⟨g a, hok a ha, by rw [he]; exact hr⟩

/-! ### Arguments -/
theorem arg_one {P : Program} {t : TypeId} {α : Type} {e : α → List AV} {ok : α → Prop} (h : Opens P t e ok) {x : α → AV} (he : ∀ a, e a = [x a]) {H : Type} {enc : TypeId × Value → H} {w : World} {base : Nat} {spare : Nat → Bool} {held : Bool} {v : Value} {d : DataW H} {ps : List MemPlace}
    (hv : v.cells = #[v]) (hd : DataW.Trod enc P w base spare held t v d ps) : ∃ a, ok a ∧ RepV (Iall w) w v (x a) := by
  obtain ⟨fuel, hf⟩ := hd
  obtain ⟨a, ha, hr⟩ := h.get hf
  refine ⟨a, ha, ?_⟩
  have := hr.rep 0 (by simp [he])
  simpa [hv, he] using this
theorem arg_agg {P : Program} {t : TypeId} {α : Type} {e : α → List AV} {ok : α → Prop} (h : Opens P t e ok) {H : Type} {enc : TypeId × Value → H} {w : World} {base : Nat} {spare : Nat → Bool} {held : Bool} {cs : Array Value} {d : DataW H} {ps : List MemPlace}
    (hd : DataW.Trod enc P w base spare held t (.agg cs) d ps) : ∃ a, ok a ∧ RepV (Iall w) w (.agg cs) (.agg (e a)) := by
  obtain ⟨fuel, hf⟩ := hd
  obtain ⟨a, ha, hr⟩ := h.get hf
  have e1 : (Value.agg cs).cells.toList = cs.toList := rfl
  rw [e1] at hr
  have e2 : ∀ j, cs.toList.getD j undef = cs.getD j undef := fun j => by simp [Array.getD_eq_getD_getElem?, List.getD]
  refine ⟨a, ha, .agg _ _ (by simpa using hr.len) (fun j hj => ?_) (fun j hj => ?_)⟩
  · rw [← e2]; exact hr.one j hj
  · rw [← e2]; exact hr.rep j hj
end Go.Proofs.YtcddajbcbkbipaaGreatDoor

namespace Go.Proofs.YtcddajbcbkbipaaGreatDoor
open Go Go.RowKit
def okI64 (n : Int) : Prop := (Lit.int .i64 n).wf = true
theorem op_3 : Opens Tryz.prog 3 eI64 okI64 := opens_int Tryz.underlying3 (fun _ => rfl)
def okLI64 (l : List (Int)) : Prop := (∀ a ∈ l, okI64 a) ∧ l.length ≤ maxLen
theorem op_22 : Opens Tryz.prog 22 eLI64 okLI64 := opens_slice (d := (0 : Int)) Tryz.underlying22 (by kernel_rfl) (by decide) op_3 (fun _ => rfl) (fun _ => rfl)
def okTPhi (a : TPhi) : Prop := okI64 a.Bits ∧ okI64 a.Dst ∧ okLI64 a.From ∧ okLI64 a.Args ∧ True
theorem op_49 : Opens Tryz.prog 49 eTPhi okTPhi := Opens.to (opens_struct (N := 4) Tryz.underlying49 (by kernel_rfl) (opensF_cons (off := 0) (sz := 1) (N := 4) rfl (by kernel_rfl) (by decide) op_3 (opensF_cons (off := 1) (sz := 1) (N := 4) rfl (by kernel_rfl) (by decide) op_3 (opensF_cons (off := 2) (sz := 1) (N := 4) rfl (by kernel_rfl) (by decide) op_22 (opensF_cons (off := 3) (sz := 1) (N := 4) rfl (by kernel_rfl) (by decide) op_22 opensF_nil))))) (fun p => ⟨p.1, p.2.1, p.2.2.1, p.2.2.2.1⟩) (fun _ => rfl) (fun _ h => h)
def okLTPhi (l : List (TPhi)) : Prop := (∀ a ∈ l, okTPhi a) ∧ l.length ≤ maxLen
theorem op_42 : Opens Tryz.prog 42 eLTPhi okLTPhi := opens_slice (d := (default : TPhi)) Tryz.underlying42 (by kernel_rfl) (by decide) op_49 (fun _ => rfl) (fun _ => rfl)
def okU64 (n : Int) : Prop := (Lit.int .u64 n).wf = true
theorem op_39 : Opens Tryz.prog 39 eU64 okU64 := opens_int Tryz.underlying39 (fun _ => rfl)
def okTOp (a : TOp) : Prop := okI64 a.Kind ∧ okI64 a.Bits ∧ okI64 a.Lanes ∧ okI64 a.Dst ∧ okLI64 a.Args ∧ okU64 a.Imm ∧ True
theorem op_41 : Opens Tryz.prog 41 eTOp okTOp := Opens.to (opens_struct (N := 6) Tryz.underlying41 (by kernel_rfl) (opensF_cons (off := 0) (sz := 1) (N := 6) rfl (by kernel_rfl) (by decide) op_3 (opensF_cons (off := 1) (sz := 1) (N := 6) rfl (by kernel_rfl) (by decide) op_3 (opensF_cons (off := 2) (sz := 1) (N := 6) rfl (by kernel_rfl) (by decide) op_3 (opensF_cons (off := 3) (sz := 1) (N := 6) rfl (by kernel_rfl) (by decide) op_3 (opensF_cons (off := 4) (sz := 1) (N := 6) rfl (by kernel_rfl) (by decide) op_22 (opensF_cons (off := 5) (sz := 1) (N := 6) rfl (by kernel_rfl) (by decide) op_39 opensF_nil))))))) (fun p => ⟨p.1, p.2.1, p.2.2.1, p.2.2.2.1, p.2.2.2.2.1, p.2.2.2.2.2.1⟩) (fun _ => rfl) (fun _ h => h)
def okLTOp (l : List (TOp)) : Prop := (∀ a ∈ l, okTOp a) ∧ l.length ≤ maxLen
theorem op_43 : Opens Tryz.prog 43 eLTOp okLTOp := opens_slice (d := (default : TOp)) Tryz.underlying43 (by kernel_rfl) (by decide) op_41 (fun _ => rfl) (fun _ => rfl)
def okTEnd (a : TEnd) : Prop := okI64 a.Kind ∧ okI64 a.Arg ∧ okLI64 a.To ∧ True
theorem op_45 : Opens Tryz.prog 45 eTEnd okTEnd := Opens.to (opens_struct (N := 3) Tryz.underlying45 (by kernel_rfl) (opensF_cons (off := 0) (sz := 1) (N := 3) rfl (by kernel_rfl) (by decide) op_3 (opensF_cons (off := 1) (sz := 1) (N := 3) rfl (by kernel_rfl) (by decide) op_3 (opensF_cons (off := 2) (sz := 1) (N := 3) rfl (by kernel_rfl) (by decide) op_22 opensF_nil)))) (fun p => ⟨p.1, p.2.1, p.2.2.1⟩) (fun _ => rfl) (fun _ h => h)
def okTBlock (a : TBlock) : Prop := okLTPhi a.Phis ∧ okLTOp a.Ops ∧ okTEnd a.End ∧ True
theorem op_47 : Opens Tryz.prog 47 eTBlock okTBlock := Opens.to (opens_struct (N := 5) Tryz.underlying47 (by kernel_rfl) (opensF_cons (off := 0) (sz := 1) (N := 5) rfl (by kernel_rfl) (by decide) op_42 (opensF_cons (off := 1) (sz := 1) (N := 5) rfl (by kernel_rfl) (by decide) op_43 (opensF_cons (off := 2) (sz := 3) (N := 5) rfl (by kernel_rfl) (by decide) op_45 opensF_nil)))) (fun p => ⟨p.1, p.2.1, p.2.2.1⟩) (fun _ => rfl) (fun _ h => h)
def okLTBlock (l : List (TBlock)) : Prop := (∀ a ∈ l, okTBlock a) ∧ l.length ≤ maxLen
theorem op_23 : Opens Tryz.prog 23 eLTBlock okLTBlock := opens_slice (d := (default : TBlock)) Tryz.underlying23 (by kernel_rfl) (by decide) op_47 (fun _ => rfl) (fun _ => rfl)
def okTFunc (a : TFunc) : Prop := okLI64 a.Params ∧ okI64 a.Ret ∧ okLTBlock a.Blocks ∧ True
theorem op_25 : Opens Tryz.prog 25 eTFunc okTFunc := Opens.to (opens_struct (N := 3) Tryz.underlying25 (by kernel_rfl) (opensF_cons (off := 0) (sz := 1) (N := 3) rfl (by kernel_rfl) (by decide) op_22 (opensF_cons (off := 1) (sz := 1) (N := 3) rfl (by kernel_rfl) (by decide) op_3 (opensF_cons (off := 2) (sz := 1) (N := 3) rfl (by kernel_rfl) (by decide) op_23 opensF_nil)))) (fun p => ⟨p.1, p.2.1, p.2.2.1⟩) (fun _ => rfl) (fun _ h => h)
end Go.Proofs.YtcddajbcbkbipaaGreatDoor

namespace Go.Proofs.YtcddajbcbkbipaaGreatDoor
open Go Go.RowKit
set_option linter.unusedVariables false
set_option linter.unusedSimpArgs false

def numB (n : Int) : Bool := decide (0 ≤ n) && decide (n ≤ 2147483647)
def listB (l : List Int) : Bool := l.all numB && decide (l.length ≤ 64)
def phiB (p : TPhi) : Bool := numB p.Bits && numB p.Dst && listB p.From && listB p.Args
def opB (o : TOp) : Bool := numB o.Kind && numB o.Bits && numB o.Lanes && numB o.Dst && listB o.Args
def endB (e : TEnd) : Bool := numB e.Kind && numB e.Arg && listB e.To
def blockB (b : TBlock) : Bool := b.Phis.all phiB && b.Ops.all opB && endB b.End
def sizeB (b : TBlock) : Nat := b.Phis.length + b.Ops.length + 1
/-- How many there are; as a word. -/
def sizeN (f : TFunc) : Nat := (f.Blocks.map sizeB).sum
def sizeW (f : TFunc) : Int := w64 (sizeN f)
def mayF (f : TFunc) : Bool := decide (1 ≤ f.Blocks.length) && decide (f.Blocks.length ≤ 64) && decide (f.Params.length ≤ 16) && listB f.Params && numB f.Ret && decide (sizeW f ≤ 512) && f.Blocks.all blockB
def entP (p : TPhi) : Nat := 1 + p.From.length + p.Args.length
def entO (o : TOp) : Nat := 1 + o.Args.length
def entB (b : TBlock) : Nat := 1 + b.End.To.length + (b.Phis.map entP).sum + (b.Ops.map entO).sum
def entF (f : TFunc) : Nat := f.Params.length + (f.Blocks.map entB).sum

theorem maxLen_eq : maxLen = 9223372036854775807 := rfl
/-- What comes in: lengths that there are; Imm a word. -/
structure InF (f : TFunc) : Prop where
  params : f.Params.length ≤ maxLen
  blocks : f.Blocks.length ≤ maxLen
  block : ∀ b ∈ f.Blocks, b.Phis.length ≤ maxLen ∧ b.Ops.length ≤ maxLen ∧ b.End.To.length ≤ maxLen
  phi : ∀ b ∈ f.Blocks, ∀ p ∈ b.Phis, p.From.length ≤ maxLen ∧ p.Args.length ≤ maxLen
  op : ∀ b ∈ f.Blocks, ∀ o ∈ b.Ops, o.Args.length ≤ maxLen ∧ 0 ≤ o.Imm ∧ o.Imm < 18446744073709551616
theorem inF {f : TFunc} (h : okTFunc f) : InF f :=
  ⟨h.1.2, h.2.2.1.2, fun b hb => ⟨(h.2.2.1.1 b hb).1.2, (h.2.2.1.1 b hb).2.1.2, (h.2.2.1.1 b hb).2.2.1.2.2.1.2⟩, fun b hb p hp => ⟨((h.2.2.1.1 b hb).1.1 p hp).2.2.1.2, ((h.2.2.1.1 b hb).1.1 p hp).2.2.2.1.2⟩,
    fun b hb o ho => ⟨((h.2.2.1.1 b hb).2.1.1 o ho).2.2.2.2.1.2, wf_u64 ((h.2.2.1.1 b hb).2.1.1 o ho).2.2.2.2.2.1⟩⟩

theorem w64_nat {n : Nat} (h : n < 9223372036854775808) : w64 (n : Int) = n := w64_of (by omega) (by omega)
theorem w64_suc' {i n : Nat} (h : i < n) (hn : n ≤ maxLen) : w64 ((i : Int) + 1) = ((i + 1 : Nat) : Int) := by rw [maxLen_eq] at hn; rw [show ((i : Int) + 1) = ((i + 1 : Nat) : Int) by omega, w64_nat (by omega)]

/-! ### How much there is -/
/-- Of whatever size: it is told. -/
theorem small_some (f : TFunc) (hf : InF f) : ∃ b, m_lockstepref04_Small f = some b := by
  have h3 : ∃ x, loopO (m_lockstepref04_Small_L3 f) ((f.Params.length : Int), ((0 : Nat) : Int)) = some x := by
    refine loop_total f.Blocks.length (m_lockstepref04_Small_L3 f) (fun n i hi => ?_) (fun n => ?_) f.Blocks.length 0 _ (Nat.zero_add _)
    · have hmem := getD_mem (d := (default : TBlock)) hi
      obtain ⟨b1, b2, _⟩ := hf.block _ hmem
      have hI : InB (i : Int) f.Blocks.length := inB_nat hi
      unfold m_lockstepref04_Small_L3
      cases hc : (bif decide ((i : Int) < (f.Blocks.length : Int)) then decide (n ≤ 20000) else false) with
      | false => right; simp only [hc, cond_false]; exact ⟨_, rfl⟩
      | true =>
        left
        simp only [hc, cond_true, chk_pos' hI]
        obtain ⟨x1, h1⟩ := loop_total (f.Blocks.getD i default).Phis.length (m_lockstepref04_Small_L1 f i) (fun n j hj => by
            unfold m_lockstepref04_Small_L1
            simp only [chk_pos' hI, Int.toNat_natCast]
            cases hc : (bif decide ((j : Int) < ((f.Blocks.getD i default).Phis.length : Int)) then decide (n ≤ 20000) else false) with
            | false => right; exact ⟨_, rfl⟩
            | true => left; simp only [cond_true, chk_pos' (inB_nat hj), w64_suc' hj b1]; exact ⟨_, rfl⟩) (fun n => by
            unfold m_lockstepref04_Small_L1
            simp only [chk_pos' hI, Int.toNat_natCast]
            have : decide (((f.Blocks.getD i default).Phis.length : Int) < ((f.Blocks.getD i default).Phis.length : Int)) = false := by simp
            simp only [this, cond_false]; exact ⟨_, rfl⟩) _ 0 (w64 (w64 (n + 1) + ((f.Blocks.getD i default).End.To.length : Int))) (Nat.zero_add _)
        obtain ⟨x2, h2⟩ := loop_total (f.Blocks.getD i default).Ops.length (m_lockstepref04_Small_L2 f i) (fun n j hj => by
            unfold m_lockstepref04_Small_L2
            simp only [chk_pos' hI, Int.toNat_natCast]
            cases hc : (bif decide ((j : Int) < ((f.Blocks.getD i default).Ops.length : Int)) then decide (n ≤ 20000) else false) with
            | false => right; exact ⟨_, rfl⟩
            | true => left; simp only [cond_true, chk_pos' (inB_nat hj), w64_suc' hj b2]; exact ⟨_, rfl⟩) (fun n => by
            unfold m_lockstepref04_Small_L2
            simp only [chk_pos' hI, Int.toNat_natCast]
            have : decide (((f.Blocks.getD i default).Ops.length : Int) < ((f.Blocks.getD i default).Ops.length : Int)) = false := by simp
            simp only [this, cond_false]; exact ⟨_, rfl⟩) _ 0 x1 (Nat.zero_add _)
        rw [show ((0 : Nat) : Int) = 0 from rfl] at h1 h2
        simp only [Int.toNat_natCast, h1, h2, Option.bind_some, w64_suc' hi hf.blocks]
        exact ⟨_, rfl⟩
    · unfold m_lockstepref04_Small_L3
      have : decide ((f.Blocks.length : Int) < (f.Blocks.length : Int)) = false := by simp
      simp only [this, cond_false]; exact ⟨_, rfl⟩
  obtain ⟨x, hx⟩ := h3
  unfold m_lockstepref04_Small
  rw [show ((0 : Nat) : Int) = 0 from rfl] at hx
  rw [hx]
  exact ⟨_, rfl⟩

/-- Where lists are short: just if there is not too much. -/
theorem small_eq (f : TFunc) (hf : InF f) (h0 : f.Params.length ≤ 64) (hb : ∀ b ∈ f.Blocks, b.End.To.length ≤ 64 ∧ (∀ p ∈ b.Phis, p.From.length ≤ 64 ∧ p.Args.length ≤ 64) ∧ ∀ o ∈ b.Ops, o.Args.length ≤ 64) : m_lockstepref04_Small f = some (decide (entF f ≤ 20000)) := by
  have h3 := loop_sum f.Blocks (default : TBlock) entB 20000 (m_lockstepref04_Small_L3 f) (fun n i hi hn => by
      have hmem := getD_mem (d := (default : TBlock)) hi
      obtain ⟨b1, b2, b3⟩ := hf.block _ hmem
      obtain ⟨hTo, hPh, hOp⟩ := hb _ hmem
      have hI1 : InB (i : Int) f.Blocks.length := inB_nat hi
      have l1 := loop_sum (f.Blocks.getD i default).Phis (default : TPhi) entP 20000 (m_lockstepref04_Small_L1 f i) (fun n j hj hn => by
          have hm := getD_mem (d := (default : TPhi)) hj
          obtain ⟨p1, p2⟩ := hPh _ hm
          have e1 : decide ((j : Int) < ((f.Blocks.getD i default).Phis.length : Int)) = true := by simpa using hj
          have e2 : decide ((n : Int) ≤ 20000) = true := by simp; omega
          refine ⟨n + entP ((f.Blocks.getD i default).Phis.getD j default), ?_, fun _ => rfl, fun h => h⟩
          unfold m_lockstepref04_Small_L1
          simp only [chk_pos' hI1, Int.toNat_natCast, e1, e2, cond_true, chk_pos' (inB_nat hj), w64_suc' hj b1]
          congr 3
          rw [w64_of (n := (n : Int) + 1) (by omega) (by omega), w64_of (n := (n : Int) + 1 + _) (by omega) (by omega), w64_of (by omega) (by omega)]
          simp only [entP]
          omega) (fun n j hj hd => by
          unfold m_lockstepref04_Small_L1
          simp only [chk_pos' hI1, Int.toNat_natCast]
          have : (bif decide ((j : Int) < ((f.Blocks.getD i default).Phis.length : Int)) then decide ((n : Int) ≤ 20000) else false) = false := by
            rcases hd with rfl | h
            · simp
            · simp; omega
          rw [this]; rfl)
      have l2 := loop_sum (f.Blocks.getD i default).Ops (default : TOp) entO 20000 (m_lockstepref04_Small_L2 f i) (fun n j hj hn => by
          have hm := getD_mem (d := (default : TOp)) hj
          have p1 := hOp _ hm
          have e1 : decide ((j : Int) < ((f.Blocks.getD i default).Ops.length : Int)) = true := by simpa using hj
          have e2 : decide ((n : Int) ≤ 20000) = true := by simp; omega
          refine ⟨n + entO ((f.Blocks.getD i default).Ops.getD j default), ?_, fun _ => rfl, fun h => h⟩
          unfold m_lockstepref04_Small_L2
          simp only [chk_pos' hI1, Int.toNat_natCast, e1, e2, cond_true, chk_pos' (inB_nat hj), w64_suc' hj b2]
          congr 3
          rw [w64_of (n := (n : Int) + 1) (by omega) (by omega), w64_of (by omega) (by omega)]
          simp only [entO]
          omega) (fun n j hj hd => by
          unfold m_lockstepref04_Small_L2
          simp only [chk_pos' hI1, Int.toNat_natCast]
          have : (bif decide ((j : Int) < ((f.Blocks.getD i default).Ops.length : Int)) then decide ((n : Int) ≤ 20000) else false) = false := by
            rcases hd with rfl | h
            · simp
            · simp; omega
          rw [this]; rfl)
      have e1 : decide ((i : Int) < (f.Blocks.length : Int)) = true := by simpa using hi
      have e2 : decide ((n : Int) ≤ 20000) = true := by simp; omega
      obtain ⟨m1, q1, q2, q3⟩ := l1 _ 0 (n + 1 + (f.Blocks.getD i default).End.To.length) (Nat.zero_add _)
      obtain ⟨m2, q4, q5, q6⟩ := l2 _ 0 m1 (Nat.zero_add _)
      rw [List.drop_zero] at q2 q3 q5 q6
      refine ⟨m2, ?_, fun hle => ?_, fun hle => ?_⟩
      · unfold m_lockstepref04_Small_L3
        simp only [e1, e2, cond_true, chk_pos' hI1, Int.toNat_natCast, w64_suc' hi hf.blocks]
        rw [w64_of (n := (n : Int) + 1) (by omega) (by omega), w64_of (by omega) (by omega), show (n : Int) + 1 + ((f.Blocks.getD i default).End.To.length : Int) = ((n + 1 + (f.Blocks.getD i default).End.To.length : Nat) : Int) by omega]
        rw [show ((0 : Nat) : Int) = 0 from rfl] at q1 q4
        rw [q1, Option.bind_some, q4, Option.bind_some]
      · simp only [entB] at hle ⊢
        have := q2 (by omega)
        rw [q5 (by omega)]
        omega
      · simp only [entB]
        have h6 := q6 hle
        have h3 := q3 (by omega)
        have := q2 h3
        omega) (fun n i hi hd => by
      unfold m_lockstepref04_Small_L3
      have : (bif decide ((i : Int) < (f.Blocks.length : Int)) then decide ((n : Int) ≤ 20000) else false) = false := by
        rcases hd with rfl | h
        · simp
        · simp; omega
      simp only [this, cond_false]) f.Blocks.length 0 f.Params.length (Nat.zero_add _)
  obtain ⟨m, h1, h2, h4⟩ := h3
  rw [List.drop_zero] at h2 h4
  unfold m_lockstepref04_Small
  rw [show ((0 : Nat) : Int) = 0 from rfl] at h1
  rw [h1, Option.bind_some]
  congr 1
  apply decide_eq_decide.2
  simp only [entF]
  constructor
  · intro h; exact h4 (by omega)
  · intro h; have := h2 h; omega

/-! ### Whether it may be told -/
theorem bif_chain {p q : Bool} : (bif p then true else q) = (p || q) := by cases p <;> rfl
end Go.Proofs.YtcddajbcbkbipaaGreatDoor

namespace Go.Proofs.YtcddajbcbkbipaaGreatDoor
open Go Go.RowKit
set_option linter.unusedVariables false
set_option linter.unusedSimpArgs false
theorem numB_iff {n : Int} : numB n = true ↔ 0 ≤ n ∧ n ≤ 2147483647 := by simp [numB]
theorem listB_iff {l : List Int} : listB l = true ↔ good31 l ∧ l.length ≤ 64 := by
  simp [listB, good31, numB_iff]
def wideP (n : Int) : Prop := 0 ≤ n ∧ n < 18446744073709551616
abbrev isNum (n : Int) : Prop := 0 ≤ n ∧ n ≤ 2147483647
abbrev isList (top : Nat) (l : List Int) : Prop := listB l = true ∧ l.length ≤ top

/-- Such a block, such a function, as may be read. -/
structure OkB (b : TBlock) : Prop where
  may : blockB b = true
  phis : b.Phis.length ≤ 512
  ops : b.Ops.length ≤ 512
  imm : ∀ o ∈ b.Ops, wideP o.Imm
structure OkF (f : TFunc) : Prop where
  params : listB f.Params = true
  few : f.Params.length ≤ 16
  ret : numB f.Ret = true
  blocks : f.Blocks.length ≤ 64
  block : ∀ b ∈ f.Blocks, OkB b
theorem blockB_iff {b : TBlock} : blockB b = true ↔ (∀ p ∈ b.Phis, phiB p = true) ∧ (∀ o ∈ b.Ops, opB o = true) ∧ endB b.End = true := by
  simp [blockB, and_assoc]
theorem sum_le {α : Type} (l : List α) (g : α → Nat) (B : Nat) (h : ∀ a ∈ l, g a ≤ B) : (l.map g).sum ≤ l.length * B := by
  induction l with
  | nil => simp
  | cons a l ih =>
    have h1 := h a (by simp)
    have h2 := ih (fun b hb => h b (by simp [hb]))
    rw [List.map_cons, List.sum_cons, List.length_cons, Nat.add_mul]
    omega
theorem sum_mono {α : Type} (l : List α) (g k : α → Nat) (h : ∀ a ∈ l, g a ≤ k a) : (l.map g).sum ≤ (l.map k).sum := by
  induction l with
  | nil => simp
  | cons a l ih =>
    have h1 := h a (by simp)
    have h2 := ih (fun b hb => h b (by simp [hb]))
    rw [List.map_cons, List.sum_cons, List.map_cons, List.sum_cons]
    omega
theorem len_le_sum {α : Type} (l : List α) (g : α → Nat) (h : ∀ a ∈ l, 1 ≤ g a) : l.length ≤ (l.map g).sum := by
  induction l with
  | nil => simp
  | cons a l ih =>
    have h1 := h a (by simp)
    have h2 := ih (fun b hb => h b (by simp [hb]))
    rw [List.map_cons, List.sum_cons, List.length_cons]
    omega
theorem mem_le_sum {α : Type} {l : List α} {a : α} (g : α → Nat) (h : a ∈ l) : g a ≤ (l.map g).sum := by
  induction l with
  | nil => cases h
  | cons b l ih =>
    rw [List.map_cons, List.sum_cons]
    rcases List.mem_cons.1 h with rfl | h
    · omega
    · have := ih h; omega
theorem OkF.size {f : TFunc} (h : OkF f) : sizeN f ≤ 65600 ∧ sizeW f = sizeN f := by
  have : sizeN f ≤ f.Blocks.length * 1025 := sum_le _ _ _ fun b hb => by
    have h1 := (h.block b hb).phis
    have h2 := (h.block b hb).ops
    simp only [sizeB]
    omega
  have h2 := h.blocks
  have h3 : sizeN f ≤ 65600 := by omega
  exact ⟨h3, w64_nat (by omega)⟩
/-- May be told, and no more than is gone through: such as may be read, and few. -/
theorem may_parts {f : TFunc} (h : mayF f = true) : 1 ≤ f.Blocks.length ∧ f.Blocks.length ≤ 64 ∧ f.Params.length ≤ 16 ∧ listB f.Params = true ∧ numB f.Ret = true ∧ sizeW f ≤ 512 ∧ ∀ b ∈ f.Blocks, blockB b = true := by
  simp only [mayF, Bool.and_eq_true, decide_eq_true_eq, List.all_eq_true] at h
  exact ⟨h.1.1.1.1.1.1, h.1.1.1.1.1.2, h.1.1.1.1.2, h.1.1.1.2, h.1.1.2, h.1.2, h.2⟩
theorem may_lists {f : TFunc} (h : mayF f = true) : f.Params.length ≤ 64 ∧ ∀ b ∈ f.Blocks, b.End.To.length ≤ 64 ∧ (∀ p ∈ b.Phis, p.From.length ≤ 64 ∧ p.Args.length ≤ 64) ∧ ∀ o ∈ b.Ops, o.Args.length ≤ 64 := by
  obtain ⟨_, _, h3, _, _, _, h7⟩ := may_parts h
  refine ⟨by omega, fun b hb => ?_⟩
  obtain ⟨q1, q2, q3⟩ := blockB_iff.1 (h7 b hb)
  simp only [endB, Bool.and_eq_true] at q3
  refine ⟨(listB_iff.1 q3.2).2, fun p hp => ?_, fun o ho => ?_⟩
  · have := q1 p hp
    simp only [phiB, Bool.and_eq_true] at this
    exact ⟨(listB_iff.1 this.1.2).2, (listB_iff.1 this.2).2⟩
  · have := q2 o ho
    simp only [opB, Bool.and_eq_true] at this
    exact (listB_iff.1 this.2).2
theorem may_ok {f : TFunc} (hf : InF f) (h : mayF f = true) (hs : entF f ≤ 20000) : OkF f ∧ sizeN f ≤ 512 := by
  obtain ⟨h1, h2, h3, h4, h5, h6, h7⟩ := may_parts h
  have hle : sizeN f ≤ entF f := by
    have : sizeN f ≤ (f.Blocks.map entB).sum := sum_mono _ _ _ fun b hb => by
      have q1 : b.Phis.length ≤ (b.Phis.map entP).sum := len_le_sum _ _ fun p hp => by simp only [entP]; omega
      have q2 : b.Ops.length ≤ (b.Ops.map entO).sum := len_le_sum _ _ fun p hp => by simp only [entO]; omega
      simp only [sizeB, entB]
      omega
    simp only [entF]
    omega
  have hw : sizeW f = sizeN f := w64_nat (by omega)
  have h512 : sizeN f ≤ 512 := by omega
  refine ⟨⟨h4, h3, h5, h2, fun b hb => ?_⟩, h512⟩
  have hb512 : sizeB b ≤ sizeN f := mem_le_sum sizeB hb
  simp only [sizeB] at hb512
  exact ⟨h7 b hb, by omega, by omega, fun o ho => (hf.op b hb o ho).2⟩
theorem ok_may {f : TFunc} (h : OkF f) (h1 : 1 ≤ f.Blocks.length) (hs : sizeN f ≤ 512) : mayF f = true := by
  have hw := h.size.2
  simp only [mayF, Bool.and_eq_true, decide_eq_true_eq, List.all_eq_true]
  exact ⟨⟨⟨⟨⟨⟨h1, h.blocks⟩, h.few⟩, h.params⟩, h.ret⟩, by omega⟩, fun b hb => (h.block b hb).may⟩
theorem numB_wide {n : Int} (h : numB n = true) : wideP n := by have := numB_iff.1 h; exact ⟨this.1, by omega⟩
end Go.Proofs.YtcddajbcbkbipaaGreatDoor

namespace Go.Proofs.YtcddajbcbkbipaaGreatDoor
open Go Go.RowKit
set_option linter.unusedVariables false
set_option linter.unusedSimpArgs false

/-! ### Digits -/
def digN (n : Nat) : List Int := if h : n < 10 then [((48 + n : Nat) : Int)] else digN (n / 10) ++ [((48 + n % 10 : Nat) : Int)]
termination_by n
theorem digN_lt {n : Nat} (h : n < 10) : digN n = [((48 + n : Nat) : Int)] := by rw [digN, dif_pos h]
theorem digN_ge {n : Nat} (h : ¬ n < 10) : digN n = digN (n / 10) ++ [((48 + n % 10 : Nat) : Int)] := by rw [digN, dif_neg h]
theorem digN_last (n : Nat) : digN n = (digN n).dropLast ++ [((48 + n % 10 : Nat) : Int)] := by
  by_cases h : n < 10
  · rw [digN_lt h, Nat.mod_eq_of_lt h]; rfl
  · rw [digN_ge h, List.dropLast_concat]
theorem digN_ne (n : Nat) : digN n ≠ [] := by
  by_cases h : n < 10
  · rw [digN_lt h]; exact List.cons_ne_nil _ _
  · rw [digN_ge h]; simp
theorem digN_len : ∀ (k n : Nat), n < 10 ^ (k + 1) → (digN n).length ≤ k + 1
  | 0, n, h => by rw [digN_lt (by simpa using h)]; simp
  | k + 1, n, h => by
    by_cases h1 : n < 10
    · rw [digN_lt h1]; simp
    · have := digN_len k (n / 10) (by rw [Nat.div_lt_iff_lt_mul (by decide)]; rw [Nat.pow_succ] at h; exact h)
      rw [digN_ge h1, List.length_append]
      simp only [List.length_singleton]
      omega
theorem digN_len20 {n : Nat} (h : n < 2 ^ 64) : (digN n).length ≤ 20 := digN_len 19 n (Nat.lt_of_lt_of_le h (by decide))
/-- A digit. -/
def digB (x : Int) : Prop := 48 ≤ x ∧ x ≤ 57
theorem digN_dig : ∀ (n : Nat), ∀ x ∈ digN n, digB x := by
  intro n
  induction n using Nat.strongRecOn with
  | _ n ih =>
    intro x hx
    by_cases h : n < 10
    · rw [digN_lt h, List.mem_singleton] at hx
      subst hx
      exact ⟨by omega, by omega⟩
    · rw [digN_ge h, List.mem_append, List.mem_singleton] at hx
      rcases hx with hx | rfl
      · exact ih (n / 10) (by omega) x hx
      · exact ⟨by omega, by omega⟩

theorem bytesF_self (l : List Int) : bytesF l.length (fun i => eU8 (l.getD i 0)) = l := by
  unfold bytesF
  apply List.ext_getElem
  · simp
  · intro i h1 h2
    simp [eU8, AV.num, List.getD, h2]
theorem byteF_self {l : List Int} (h : ∀ x ∈ l, 0 ≤ x ∧ x < 256) : ByteF l.length (fun i => eU8 (l.getD i 0)) := fun i hi => by
  refine ⟨by simp [eU8, AV.num], ?_⟩
  have := h _ (getD_mem (d := (0 : Int)) hi)
  simpa [eU8, AV.num] using this
theorem dig_cell {n : Nat} : wu8 (wu64 ((48 : Int) + (Int.tmod (n : Int) (10 : Int)))) = ((48 + n % 10 : Nat) : Int) := by
  have : Int.tmod (n : Int) 10 = ((n % 10 : Nat) : Int) := rfl
  rw [this, wu64_of (by omega) (by omega), wu8_of (by omega) (by omega)]
  omega
theorem one_byte (k : Nat) (h : k < 10) : ∀ x ∈ [((48 + k : Nat) : Int)], 0 ≤ x ∧ x < 256 := fun x hx => by
  obtain rfl := List.mem_singleton.1 hx
  omega
/-! ### Numbers, lists -/
def dg (x : Int) : List Int := digN x.toNat
def numS (x : Int) : List Int := 32 :: dg x
theorem numS_len (x : Int) : (numS x).length = (dg x).length + 1 := rfl
def numsS (l : List Int) : List Int := (l.map numS).flatten
def listS (l : List Int) : List Int := 32 :: 40 :: ((numsS l).drop 1 ++ [41])
theorem dg_len {x : Int} (h : wideP x) : (dg x).length ≤ 20 := digN_len20 (by rw [two64]; have := h.1; have := h.2; omega)
theorem numsS_len {l : List Int} (h : ∀ x ∈ l, wideP x) : (numsS l).length ≤ l.length * 21 := flat_bound l numS 21 fun x hx => by have := dg_len (h x hx); simp only [numS, List.length_cons]; omega
theorem listS_len {l : List Int} (h : ∀ x ∈ l, wideP x) : (listS l).length ≤ l.length * 21 + 3 := by
  have := numsS_len h
  simp only [listS, List.length_cons, List.length_append, List.length_drop, List.length_nil]
  omega
theorem good_wide {l : List Int} (h : good31 l) : ∀ x ∈ l, wideP x := fun x hx => ⟨(h x hx).1, by have := (h x hx).2; omega⟩
/-! ### Words -/
def brB (c : Int) : Bool := c == 40 || c == 41
def sepB (c : Int) : Bool := c == 32 || c == 10 || c == 40 || c == 41
/-- A word, if there is one. -/
def fl (w : List Int) : List (List Int) := if w = [] then [] else [w]
def wordsA : List Int → List Int → List (List Int)
  | [], w => fl w
  | c :: s, w => if sepB c = true then fl w ++ (if brB c = true then [[c]] else []) ++ wordsA s [] else wordsA s (w ++ [c])
def wordsS (s : List Int) : List (List Int) := wordsA s []
theorem fl_nil : fl [] = [] := by simp [fl]
theorem fl_ne {w : List Int} (h : w ≠ []) : fl w = [w] := by simp [fl, h]
theorem words_sep {c : Int} (h : sepB c = true) (s w : List Int) : wordsA (c :: s) w = fl w ++ wordsA (c :: s) [] := by
  simp only [wordsA, h, if_true, fl_nil, List.nil_append, List.append_assoc]
theorem words_blank (s w : List Int) : wordsA (32 :: s) w = fl w ++ wordsA s [] := by simp [wordsA, sepB, brB]
theorem words_line (s w : List Int) : wordsA (10 :: s) w = fl w ++ wordsA s [] := by simp [wordsA, sepB, brB]
theorem words_open (s w : List Int) : wordsA (40 :: s) w = fl w ++ [40] :: wordsA s [] := by simp [wordsA, sepB, brB]
theorem words_shut (s w : List Int) : wordsA (41 :: s) w = fl w ++ [41] :: wordsA s [] := by simp [wordsA, sepB, brB]
theorem words_run (t s w : List Int) (h : ∀ x ∈ t, sepB x = false) : wordsA (t ++ s) w = wordsA s (w ++ t) := by
  induction t generalizing w with
  | nil => simp
  | cons c t ih =>
    rw [List.cons_append, wordsA, h c (by simp), if_neg (by decide), ih (w ++ [c]) (fun x hx => h x (by simp [hx]))]
    simp
theorem dig_nosep {x : Int} (h : digB x) : sepB x = false := by
  unfold sepB
  have h1 : (x == 32) = false := by rw [beq_eq_false_iff_ne]; have := h.1; omega
  have h2 : (x == 10) = false := by rw [beq_eq_false_iff_ne]; have := h.1; omega
  have h3 : (x == 40) = false := by rw [beq_eq_false_iff_ne]; have := h.1; omega
  have h4 : (x == 41) = false := by rw [beq_eq_false_iff_ne]; have := h.1; omega
  rw [h1, h2, h3, h4]; rfl
theorem words_dg (x : Int) (s w : List Int) : wordsA (dg x ++ s) w = wordsA s (w ++ dg x) := words_run _ s w fun y hy => dig_nosep (digN_dig _ y hy)
theorem dg_ne (x : Int) : dg x ≠ [] := digN_ne _
/-- It begins with what ends a word. -/
def Ends (s : List Int) : Prop := ∃ c t, s = c :: t ∧ sepB c = true
theorem Ends.flush {s : List Int} (h : Ends s) (w : List Int) : wordsA s w = fl w ++ wordsA s [] := by
  obtain ⟨c, t, rfl, hc⟩ := h
  exact words_sep hc t w
theorem ends_nums (l s : List Int) (h : Ends s) : Ends (numsS l ++ s) := by
  cases l with
  | nil => exact h
  | cons x l => exact ⟨32, dg x ++ numsS l ++ s, by simp [numsS, numS], rfl⟩
theorem words_nums : ∀ (l s w : List Int), Ends s → wordsA (numsS l ++ s) w = fl w ++ (l.map dg ++ wordsA s [])
  | [], s, w, h => by simpa [numsS] using h.flush w
  | x :: l, s, w, h => by
    have e : numsS (x :: l) ++ s = 32 :: (dg x ++ (numsS l ++ s)) := by simp [numsS, numS]
    rw [e, words_blank, words_dg, List.nil_append, words_nums l s (dg x) h, fl_ne (dg_ne x)]
    simp
def listW (l : List Int) : List (List Int) := [40] :: (l.map dg ++ [[41]])
theorem words_list (l s w : List Int) : wordsA (listS l ++ s) w = fl w ++ (listW l ++ wordsA s []) := by
  have e : listS l ++ s = 32 :: 40 :: ((numsS l).drop 1 ++ (41 :: s)) := by simp [listS]
  rw [e, words_blank, words_open, fl_nil]
  cases l with
  | nil =>
    have : (numsS []).drop 1 ++ 41 :: s = 41 :: s := rfl
    rw [this, words_shut, fl_nil]
    simp [listW]
  | cons x l =>
    have e2 : (numsS (x :: l)).drop 1 ++ (41 :: s) = dg x ++ (numsS l ++ (41 :: s)) := by simp [numsS, numS]
    rw [e2, words_dg, List.nil_append, words_nums l _ _ ⟨41, s, rfl, rfl⟩, List.nil_append, fl_ne (dg_ne x), words_shut, fl_nil]
    simp [listW]
end Go.Proofs.YtcddajbcbkbipaaGreatDoor

namespace Go.Proofs.YtcddajbcbkbipaaGreatDoor
open Go Go.RowKit
set_option linter.unusedVariables false
set_option linter.unusedSimpArgs false

def kindsW : List (List Int) := [[99, 111, 110, 115, 116], [97, 100, 100], [115, 117, 98], [109, 117, 108], [100, 105, 118], [97, 110, 100], [111, 114], [120, 111, 114], [115, 104, 108], [115, 104, 114], [101, 113], [117, 108, 116], [115, 108, 116], [115, 101, 108, 101, 99, 116], [122, 101, 120, 116], [116, 114, 117, 110, 99], [108, 111, 97, 100], [115, 116, 111, 114, 101], [112, 108, 111, 97, 100], [112, 115, 116, 111, 114, 101], [112, 100, 105, 118], [112, 97, 99, 107], [103, 101, 116]]
def endsW : List (List Int) := [[114, 101, 116], [106, 117, 109, 112], [105, 102], [116, 114, 97, 112]]
def funcT : List Int := [102, 117, 110, 99]
def blockT : List Int := [98, 108, 111, 99, 107]
def phiT : List Int := [112, 104, 105]
def nameK (k : Int) : List Int := kindsW.getD k.toNat []
def nameE (k : Int) : List Int := endsW.getD k.toNat []
def phiS (p : TPhi) : List Int := phiT ++ numsS [p.Bits, p.Dst] ++ listS p.From ++ listS p.Args ++ [10]
def opS (o : TOp) : List Int := nameK o.Kind ++ numsS [o.Bits, o.Lanes, o.Dst] ++ listS o.Args ++ [32] ++ dg o.Imm ++ [10]
def endS (e : TEnd) : List Int := nameE e.Kind ++ numsS [e.Arg] ++ listS e.To ++ [10]
def blockS (b : TBlock) : List Int := blockT ++ [10] ++ (b.Phis.map phiS).flatten ++ (b.Ops.map opS).flatten ++ endS b.End
def textS (f : TFunc) : List Int := funcT ++ listS f.Params ++ numsS [f.Ret] ++ [10] ++ (f.Blocks.map blockS).flatten
def opN (o : TOp) : Bool := decide (o.Kind < 23)
def blockN (b : TBlock) : Bool := b.Ops.all opN && decide (b.End.Kind < 4)
def namedB (f : TFunc) : Bool := f.Blocks.all blockN
/-- Print. -/
def printF (f : TFunc) : List Int × Int := bif mayF f && namedB f then (textS f, 0) else ([], 1)

/-- Put together, piece behind piece, till one has none. -/
theorem loop_appends {α β X : Type} (l : List α) (d : α) (p : α → Bool) (E : α → List β) (M : Nat) (no : X) (f : List β × Int → Option (LR (List β × Int) (List β ⊕ X)))
    (hn : ∀ (out : List β) (i : Nat), i < l.length → p (l.getD i d) = true → out.length + (E (l.getD i d)).length ≤ M → f (out, (i : Int)) = some (.next (out ++ E (l.getD i d), ((i + 1 : Nat) : Int))))
    (hf : ∀ (out : List β) (i : Nat), i < l.length → p (l.getD i d) = false → out.length ≤ M → f (out, (i : Int)) = some (.done (.inr no)))
    (hd : ∀ out : List β, f (out, (l.length : Int)) = some (.done (.inl out))) :
    ∀ (k i : Nat) (out : List β), i + k = l.length → out.length + ((l.drop i).map E).flatten.length ≤ M → loopO f (out, (i : Int)) = some (bif (l.drop i).all p then .inl (out ++ ((l.drop i).map E).flatten) else .inr no)
  | 0, i, out, h, _ => by
    obtain rfl : i = l.length := by omega
    rw [loopO_done (hd out)]
    simp
  | k + 1, i, out, h, hM => by
    have hi : i < l.length := by omega
    have hdr : l.drop i = l.getD i d :: l.drop (i + 1) := by rw [List.drop_eq_getElem_cons hi, getD_eq_of_lt _ _ _ hi]
    rw [hdr, List.map_cons, List.flatten_cons, List.length_append] at hM
    cases hp : p (l.getD i d) with
    | true =>
      rw [loopO_next (hn out i hi hp (by omega)), loop_appends l d p E M no f hn hf hd k (i + 1) _ (by omega) (by rw [List.length_append]; omega), hdr, List.map_cons, List.flatten_cons, List.append_assoc, List.all_cons, hp, Bool.true_and]
    | false =>
      rw [loopO_done (hf out i hi hp (by omega)), hdr, List.all_cons, hp, Bool.false_and, cond_false]

/-! ### Lengths -/
theorem nameK_len (k : Int) : (nameK k).length ≤ 6 := by
  unfold nameK
  by_cases h : k.toNat < kindsW.length
  · have := getD_mem (d := ([] : List Int)) h
    have hall : ∀ w ∈ kindsW, w.length ≤ 6 := by decide
    exact hall _ this
  · rw [List.getD, List.getElem?_eq_none (by omega)]; simp
theorem nameE_len (k : Int) : (nameE k).length ≤ 4 := by
  unfold nameE
  by_cases h : k.toNat < endsW.length
  · have := getD_mem (d := ([] : List Int)) h
    have hall : ∀ w ∈ endsW, w.length ≤ 4 := by decide
    exact hall _ this
  · rw [List.getD, List.getElem?_eq_none (by omega)]; simp
theorem good_of (l : List Int) (h : ∀ x ∈ l, numB x = true) : good31 l := fun x hx => numB_iff.1 (h x hx)
theorem good2 {a b : Int} (ha : numB a = true) (hb : numB b = true) : good31 [a, b] := good_of _ (by simp [ha, hb])
theorem good3 {a b c : Int} (ha : numB a = true) (hb : numB b = true) (hc : numB c = true) : good31 [a, b, c] := good_of _ (by simp [ha, hb, hc])
theorem good1 {a : Int} (ha : numB a = true) : good31 [a] := good_of _ (by simp [ha])
theorem phiS_len {p : TPhi} (h : phiB p = true) : (phiS p).length ≤ 3000 := by
  simp only [phiB, Bool.and_eq_true] at h
  have q1 := numsS_len (good_wide (good2 h.1.1.1 h.1.1.2))
  obtain ⟨a1, a2⟩ := listB_iff.1 h.1.2
  obtain ⟨b1, b2⟩ := listB_iff.1 h.2
  have q2 := listS_len (good_wide a1)
  have q3 := listS_len (good_wide b1)
  have : phiT.length = 3 := rfl
  rw [show ([p.Bits, p.Dst] : List Int).length = 2 from rfl] at q1
  unfold phiS
  rw [List.length_append, List.length_append, List.length_append, List.length_append, List.length_singleton]
  omega
theorem opS_len {o : TOp} (h : opB o = true) (hi : wideP o.Imm) : (opS o).length ≤ 2000 := by
  simp only [opB, Bool.and_eq_true] at h
  have q0 := nameK_len o.Kind
  have q1 := numsS_len (good_wide (good3 h.1.1.1.2 h.1.1.2 h.1.2))
  obtain ⟨a1, a2⟩ := listB_iff.1 h.2
  have q2 := listS_len (good_wide a1)
  have q3 := dg_len hi
  rw [show ([o.Bits, o.Lanes, o.Dst] : List Int).length = 3 from rfl] at q1
  unfold opS
  rw [List.length_append, List.length_append, List.length_append, List.length_append, List.length_append, List.length_singleton, List.length_singleton]
  omega
theorem endS_len {e : TEnd} (h : endB e = true) : (endS e).length ≤ 2000 := by
  simp only [endB, Bool.and_eq_true] at h
  have q0 := nameE_len e.Kind
  have q1 := numsS_len (good_wide (good1 h.1.2))
  obtain ⟨a1, a2⟩ := listB_iff.1 h.2
  have q2 := listS_len (good_wide a1)
  rw [show ([e.Arg] : List Int).length = 1 from rfl] at q1
  unfold endS
  rw [List.length_append, List.length_append, List.length_append, List.length_singleton]
  omega
theorem flat_mul {α : Type} (l : List α) (E : α → List Int) (n B : Nat) (hl : l.length ≤ n) (h : ∀ a ∈ l, (E a).length ≤ B) : (l.map E).flatten.length ≤ n * B :=
  Nat.le_trans (flat_bound l E B h) (Nat.mul_le_mul_right _ hl)
theorem blockS_len {b : TBlock} (h : OkB b) : (blockS b).length ≤ 3000000 := by
  obtain ⟨h1, h2, h3⟩ := blockB_iff.1 h.may
  have q1 := flat_mul b.Phis phiS 512 3000 h.phis fun p hp => phiS_len (h1 p hp)
  have q2 := flat_mul b.Ops opS 512 2000 h.ops fun o ho => opS_len (h2 o ho) (h.imm o ho)
  have q3 := endS_len h3
  have : blockT.length = 5 := rfl
  unfold blockS
  rw [List.length_append, List.length_append, List.length_append, List.length_append, List.length_singleton]
  omega
theorem textS_len {f : TFunc} (h : OkF f) : (textS f).length ≤ 200000000 := by
  obtain ⟨a1, a2⟩ := listB_iff.1 h.params
  have q1 := listS_len (good_wide a1)
  have q2 := numsS_len (good_wide (good1 h.ret))
  have q3 := flat_mul f.Blocks blockS 64 3000000 h.blocks fun b hb => blockS_len (h.block b hb)
  have : funcT.length = 4 := rfl
  rw [show ([f.Ret] : List Int).length = 1 from rfl] at q2
  unfold textS
  rw [List.length_append, List.length_append, List.length_append, List.length_append, List.length_singleton]
  omega

/-! ### Print -/
/-- A chk that holds, whatever stands behind it. -/
theorem room5 {a b : List Int} (h : a.length + b.length ≤ 1000000000) : ((a.length : Int) + (b.length : Int) ≤ 9223372036854775807) := by omega
end Go.Proofs.YtcddajbcbkbipaaGreatDoor

namespace Go.Proofs.YtcddajbcbkbipaaGreatDoor
open Go Go.RowKit
set_option linter.unusedVariables false
set_option linter.unusedSimpArgs false

theorem drop0_beq {α : Type} [BEq α] (l m : List α) : (l.drop 0 == m.drop 0) = (l == m) := by simp
theorem len_beq {α β : Type} (l : List α) (m : List β) : ((l.length : Int) != (m.length : Int)) = !decide (l.length = m.length) := by
  by_cases h : l.length = m.length
  · rw [h]; simp
  · have : ((l.length : Int) != (m.length : Int)) = true := by simp; omega
    rw [this]; simp [h]
theorem beq_dec {α : Type} [BEq α] [LawfulBEq α] [DecidableEq α] (x y : α) : (x == y) = decide (x = y) := by
  by_cases h : x = y
  · subst h; simp
  · have : (x == y) = false := by simpa using h
    rw [this]; simp [h]
theorem phi_dec (p q : TPhi) : (p == q) = ((p.Bits == q.Bits) && (p.Dst == q.Dst) && decide (p.From = q.From) && decide (p.Args = q.Args)) := by
  rw [beq_dec, Bool.eq_iff_iff]
  obtain ⟨a, b, c, d⟩ := p
  obtain ⟨a', b', c', d'⟩ := q
  simp [and_assoc]
theorem block_dec (x y : TBlock) : (x == y) = (decide (x.Phis = y.Phis) && decide (x.Ops = y.Ops) && ((x.End.Kind == y.End.Kind) && (x.End.Arg == y.End.Arg) && decide (x.End.To = y.End.To))) := by
  rw [beq_dec, Bool.eq_iff_iff]
  obtain ⟨p, o, ⟨k, a, t⟩⟩ := x
  obtain ⟨p', o', ⟨k', a', t'⟩⟩ := y
  simp [and_assoc]
theorem func_dec (x y : TFunc) : decide (x = y) = ((x.Ret == y.Ret) && decide (x.Params = y.Params) && decide (x.Blocks = y.Blocks)) := by
  rw [Bool.eq_iff_iff]
  obtain ⟨p, r, b⟩ := x
  obtain ⟨p', r', b'⟩ := y
  simp [and_assoc]
  constructor
  · rintro ⟨h1, h2, h3⟩; exact ⟨h2, h1, h3⟩
  · rintro ⟨h1, h2, h3⟩; exact ⟨h2, h1, h3⟩

end Go.Proofs.YtcddajbcbkbipaaGreatDoor

namespace Go.Proofs.YtcddajbcbkbipaaGreatDoor
open Go Go.RowKit
set_option linter.unusedVariables false
set_option linter.unusedSimpArgs false

def noF : TFunc := ⟨[], 0, []⟩
theorem ok_in {f : TFunc} (h : OkF f) : InF f := by
  have hM := maxLen_eq
  refine ⟨by have := h.few; omega, by have := h.blocks; omega, fun b hb => ?_, fun b hb p hp => ?_, fun b hb o ho => ?_⟩
  · have okb := h.block b hb
    obtain ⟨_, _, q3⟩ := blockB_iff.1 okb.may
    simp only [endB, Bool.and_eq_true] at q3
    have := (listB_iff.1 q3.2).2
    exact ⟨by have := okb.phis; omega, by have := okb.ops; omega, by omega⟩
  · have q := (blockB_iff.1 (h.block b hb).may).1 p hp
    simp only [phiB, Bool.and_eq_true] at q
    have h1 := (listB_iff.1 q.1.2).2
    have h2 := (listB_iff.1 q.2).2
    exact ⟨by omega, by omega⟩
  · have q := (blockB_iff.1 (h.block b hb).may).2.1 o ho
    simp only [opB, Bool.and_eq_true] at q
    have h1 := (listB_iff.1 q.2).2
    have h2 := (h.block b hb).imm o ho
    exact ⟨by omega, h2.1, h2.2⟩
/-- What is gone through: of those that may be told, such as may be read. -/
theorem small_parts (f : TFunc) (hf : InF f) : ∃ sm, m_lockstepref04_Small f = some sm ∧ (sm = true → mayF f = true → OkF f ∧ sizeN f ≤ 512 ∧ 1 ≤ f.Blocks.length) := by
  obtain ⟨sm, h⟩ := small_some f hf
  refine ⟨sm, h, fun h1 h2 => ?_⟩
  obtain ⟨q1, q2⟩ := may_lists h2
  rw [small_eq f hf q1 q2] at h
  subst h1
  obtain ⟨r1, r2⟩ := may_ok hf h2 (by simpa using Option.some.inj h)
  exact ⟨r1, r2, (may_parts h2).1⟩
end Go.Proofs.YtcddajbcbkbipaaGreatDoor

namespace Go.Proofs.YtcddajbcbkbipaaGreatDoor
open Go Go.RowKit
set_option linter.unusedVariables false
set_option linter.unusedSimpArgs false

end Go.Proofs.YtcddajbcbkbipaaGreatDoor

namespace Go.Proofs.YtcddajbcbkbipaaGreatDoor
open Go Go.RowKit
set_option linter.unusedVariables false
set_option linter.unusedSimpArgs false

theorem wlen : ∀ (s w : List Int), (wordsA s w).length ≤ 2 * s.length + 1
  | [], w => by unfold wordsA fl; split <;> simp
  | c :: s, w => by
    have h1 := wlen s []
    have h2 := wlen s (w ++ [c])
    have h3 : (fl w).length ≤ 1 := by unfold fl; split <;> simp
    unfold wordsA
    split
    · simp only [List.length_append, List.length_cons]
      split <;> simp <;> omega
    · simp only [List.length_cons]; omega
theorem beq_nil (w : List Int) : (w == ([] : List Int)) = decide (w = []) := by cases w <;> rfl
end Go.Proofs.YtcddajbcbkbipaaGreatDoor

namespace Go.Proofs.YtcddajbcbkbipaaGreatDoor
open Go Go.RowKit
set_option linter.unusedVariables false
set_option linter.unusedSimpArgs false

abbrev Word := List Int
def phiW (p : TPhi) : List Word := phiT :: dg p.Bits :: dg p.Dst :: (listW p.From ++ listW p.Args)
def opW (o : TOp) : List Word := nameK o.Kind :: dg o.Bits :: dg o.Lanes :: dg o.Dst :: (listW o.Args ++ [dg o.Imm])
def endW (e : TEnd) : List Word := nameE e.Kind :: dg e.Arg :: listW e.To
def bodyW (b : TBlock) : List Word := (b.Phis.map phiW).flatten ++ ((b.Ops.map opW).flatten ++ endW b.End)
def blockW (b : TBlock) : List Word := blockT :: bodyW b
def funcW (f : TFunc) : List Word := funcT :: (listW f.Params ++ (dg f.Ret :: (f.Blocks.map blockW).flatten))

theorem ends_list (l s : List Int) : Ends (listS l ++ s) := ⟨32, 40 :: ((numsS l).drop 1 ++ [41]) ++ s, by simp [listS], rfl⟩
theorem ends_line (s : List Int) : Ends (10 :: s) := ⟨10, s, rfl, rfl⟩
theorem nosep_of {w : Word} (h : w.all (fun x => !sepB x) = true) : ∀ x ∈ w, sepB x = false := fun x hx => by simpa using List.all_eq_true.1 h x hx
theorem phi_nosep : ∀ x ∈ phiT, sepB x = false := nosep_of rfl
theorem block_nosep : ∀ x ∈ blockT, sepB x = false := nosep_of rfl
theorem func_nosep : ∀ x ∈ funcT, sepB x = false := nosep_of rfl
theorem kinds_nosep : ∀ w ∈ kindsW, w ≠ [] ∧ ∀ x ∈ w, sepB x = false := fun w hw => by
  have h : kindsW.all (fun w => !w.isEmpty && w.all (fun x => !sepB x)) = true := by decide
  have := List.all_eq_true.1 h w hw
  simp only [Bool.and_eq_true] at this
  exact ⟨by rintro rfl; simp at this, nosep_of this.2⟩
theorem ends_nosep : ∀ w ∈ endsW, w ≠ [] ∧ ∀ x ∈ w, sepB x = false := fun w hw => by
  have h : endsW.all (fun w => !w.isEmpty && w.all (fun x => !sepB x)) = true := by decide
  have := List.all_eq_true.1 h w hw
  simp only [Bool.and_eq_true] at this
  exact ⟨by rintro rfl; simp at this, nosep_of this.2⟩
theorem nameK_mem {k : Int} (h : 0 ≤ k ∧ k < 23) : nameK k ∈ kindsW := getD_mem (by rw [show kindsW.length = 23 from rfl]; omega)
theorem nameE_mem {k : Int} (h : 0 ≤ k ∧ k < 4) : nameE k ∈ endsW := getD_mem (by rw [show endsW.length = 4 from rfl]; omega)

theorem words_phi (p : TPhi) (s : List Int) : wordsA (phiS p ++ s) [] = phiW p ++ wordsA s [] := by
  have e : phiS p ++ s = phiT ++ (numsS [p.Bits, p.Dst] ++ (listS p.From ++ (listS p.Args ++ (10 :: s)))) := by simp [phiS]
  rw [e, words_run _ _ _ phi_nosep, words_nums _ _ _ (ends_list _ _), words_list, words_list, words_line, List.nil_append, fl_nil, fl_ne (show phiT ≠ [] by decide)]
  simp [phiW]
theorem words_op (o : TOp) (s : List Int) (hk : 0 ≤ o.Kind ∧ o.Kind < 23) : wordsA (opS o ++ s) [] = opW o ++ wordsA s [] := by
  have e : opS o ++ s = nameK o.Kind ++ (numsS [o.Bits, o.Lanes, o.Dst] ++ (listS o.Args ++ (32 :: (dg o.Imm ++ (10 :: s))))) := by simp [opS]
  obtain ⟨h1, h2⟩ := kinds_nosep _ (nameK_mem hk)
  rw [e, words_run _ _ _ h2, words_nums _ _ _ (ends_list _ _), words_list, words_blank, words_dg, words_line, List.nil_append, List.nil_append, fl_nil, fl_ne h1, fl_ne (dg_ne _)]
  simp [opW]
theorem words_end (e : TEnd) (s : List Int) (hk : 0 ≤ e.Kind ∧ e.Kind < 4) : wordsA (endS e ++ s) [] = endW e ++ wordsA s [] := by
  have e0 : endS e ++ s = nameE e.Kind ++ (numsS [e.Arg] ++ (listS e.To ++ (10 :: s))) := by simp [endS]
  obtain ⟨h1, h2⟩ := ends_nosep _ (nameE_mem hk)
  rw [e0, words_run _ _ _ h2, words_nums _ _ _ (ends_list _ _), words_list, words_line, List.nil_append, fl_nil, fl_ne h1]
  simp [endW]
theorem words_many {α : Type} (E : α → List Int) (F : α → List Word) (l : List α) (s : List Int) (h : ∀ a ∈ l, ∀ s, wordsA (E a ++ s) [] = F a ++ wordsA s []) : wordsA ((l.map E).flatten ++ s) [] = (l.map F).flatten ++ wordsA s [] := by
  induction l with
  | nil => simp
  | cons a l ih =>
    rw [List.map_cons, List.flatten_cons, List.append_assoc, h a (by simp), ih (fun b hb => h b (by simp [hb])), List.map_cons, List.flatten_cons, List.append_assoc]
theorem words_block (b : TBlock) (s : List Int) (ho : ∀ o ∈ b.Ops, 0 ≤ o.Kind ∧ o.Kind < 23) (he : 0 ≤ b.End.Kind ∧ b.End.Kind < 4) : wordsA (blockS b ++ s) [] = blockW b ++ wordsA s [] := by
  have e : blockS b ++ s = blockT ++ (10 :: ((b.Phis.map phiS).flatten ++ ((b.Ops.map opS).flatten ++ (endS b.End ++ s)))) := by simp [blockS]
  rw [e, words_run _ _ _ block_nosep, words_line, List.nil_append, fl_ne (show blockT ≠ [] by decide), words_many phiS phiW _ _ (fun p _ s => words_phi p s), words_many opS opW _ _ (fun o h s => words_op o s (ho o h)), words_end _ _ he]
  simp [blockW, bodyW]
/-- What a text may tell. -/
structure Named (f : TFunc) : Prop where
  op : ∀ b ∈ f.Blocks, ∀ o ∈ b.Ops, 0 ≤ o.Kind ∧ o.Kind < 23
  en : ∀ b ∈ f.Blocks, 0 ≤ b.End.Kind ∧ b.End.Kind < 4
theorem words_text (f : TFunc) (h : Named f) : wordsS (textS f) = funcW f := by
  have e : textS f = funcT ++ (listS f.Params ++ (numsS [f.Ret] ++ (10 :: ((f.Blocks.map blockS).flatten ++ [])))) := by simp [textS]
  rw [wordsS, e, words_run _ _ _ func_nosep, words_list, words_nums _ _ _ (ends_line _), words_line, List.nil_append, fl_nil, fl_ne (show funcT ≠ [] by decide), words_many blockS blockW _ _ (fun b hb s => words_block b s (h.op b hb) (h.en b hb))]
  simp [funcW, wordsA, fl]
theorem named_iff {f : TFunc} (hm : mayF f = true) : namedB f = true ↔ Named f := by
  obtain ⟨_, _, _, _, _, _, hb⟩ := may_parts hm
  constructor
  · intro h
    refine ⟨fun b hbm o ho => ?_, fun b hbm => ?_⟩
    · have h1 := List.all_eq_true.1 h b hbm
      simp only [blockN, Bool.and_eq_true] at h1
      have h2 := List.all_eq_true.1 h1.1 o ho
      obtain ⟨_, q, _⟩ := blockB_iff.1 (hb b hbm)
      have h3 := q o ho
      simp only [opB, Bool.and_eq_true] at h3
      exact ⟨(numB_iff.1 h3.1.1.1.1).1, by simpa [opN] using h2⟩
    · have h1 := List.all_eq_true.1 h b hbm
      simp only [blockN, Bool.and_eq_true] at h1
      obtain ⟨_, _, q⟩ := blockB_iff.1 (hb b hbm)
      simp only [endB, Bool.and_eq_true] at q
      exact ⟨(numB_iff.1 q.1.1).1, by simpa using h1.2⟩
  · intro h
    refine List.all_eq_true.2 fun b hbm => ?_
    simp only [blockN, Bool.and_eq_true]
    exact ⟨List.all_eq_true.2 fun o ho => by simpa [opN] using (h.op b hbm o ho).2, by simpa using (h.en b hbm).2⟩

/-! ### Words, put together with blanks -/
/-- A word as there may be one. -/
def Tok (w : Word) : Prop := w = [40] ∨ w = [41] ∨ (w ≠ [] ∧ ∀ x ∈ w, sepB x = false)
theorem br_tok {c : Int} (h : brB c = true) : Tok [c] := by
  unfold brB at h
  rcases Bool.or_eq_true_iff.1 h with h | h
  · exact .inl (by rw [beq_iff_eq.1 h])
  · exact .inr (.inl (by rw [beq_iff_eq.1 h]))
theorem words_tok : ∀ (s u : List Int), (∀ x ∈ u, sepB x = false) → ∀ w ∈ wordsA s u, Tok w
  | [], u, hu, w, hw => by
    unfold wordsA fl at hw
    split at hw
    · cases hw
    · rename_i h
      obtain rfl := List.mem_singleton.1 hw
      exact .inr (.inr ⟨h, hu⟩)
  | c :: s, u, hu, w, hw => by
    unfold wordsA at hw
    split at hw
    · simp only [List.mem_append] at hw
      rcases hw with (hw | hw) | hw
      · unfold fl at hw
        split at hw
        · cases hw
        · rename_i h
          obtain rfl := List.mem_singleton.1 hw
          exact .inr (.inr ⟨h, hu⟩)
      · split at hw
        · rename_i h
          obtain rfl := List.mem_singleton.1 hw
          exact br_tok h
        · cases hw
      · exact words_tok s [] (by simp) w hw
    · rename_i h
      refine words_tok s (u ++ [c]) (fun x hx => ?_) w hw
      rcases List.mem_append.1 hx with hx | hx
      · exact hu x hx
      · obtain rfl := List.mem_singleton.1 hx
        simpa using h
def blankB (c : Int) : Bool := c == 32 || c == 10
theorem words_blanks : ∀ (t s : List Int), (∀ x ∈ t, blankB x = true) → wordsA (t ++ s) [] = wordsA s []
  | [], s, h => rfl
  | c :: t, s, h => by
    have hc := h c (by simp)
    have hs : sepB c = true := by unfold blankB at hc; unfold sepB; rcases Bool.or_eq_true_iff.1 hc with h | h <;> rw [h] <;> simp
    have hb : brB c = false := by
      unfold blankB at hc
      rcases Bool.or_eq_true_iff.1 hc with h | h <;> rw [beq_iff_eq.1 h] <;> rfl
    rw [List.cons_append, wordsA, hs, hb]
    simp only [if_true, fl_nil]
    simpa using words_blanks t s (fun x hx => h x (by simp [hx]))
/-- A word, blanks behind it. -/
theorem words_word {w t : List Int} (hw : Tok w) (ht : t ≠ []) (hb : ∀ x ∈ t, blankB x = true) (s : List Int) : wordsA (w ++ (t ++ s)) [] = w :: wordsA s [] := by
  rcases hw with rfl | rfl | ⟨h1, h2⟩
  · rw [List.singleton_append, words_open, fl_nil, words_blanks t s hb]; rfl
  · rw [List.singleton_append, words_shut, fl_nil, words_blanks t s hb]; rfl
  · rw [words_run _ _ _ h2, List.nil_append]
    cases t with
    | nil => exact absurd rfl ht
    | cons c t =>
      have hc := hb c (by simp)
      have hs : sepB c = true := by unfold blankB at hc; unfold sepB; rcases Bool.or_eq_true_iff.1 hc with h | h <;> rw [h] <;> simp
      rw [List.cons_append, words_sep hs, fl_ne h1, ← List.cons_append, words_blanks (c :: t) s hb]
      rfl
end Go.Proofs.YtcddajbcbkbipaaGreatDoor
