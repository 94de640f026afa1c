/-
  What the functions compute, and that they do.
-/
import Derived.Test.YtgdihcpnhkkelaaFrz
import Derived.Test.YtgdihcpnhkkelaaProg
namespace Go.Proofs.Ytgdihcpnhkkelaa
open Go Go.RowKit
set_option linter.unusedVariables false
set_option maxRecDepth 100000
set_option maxHeartbeats 2000000
def eU8 (x : Int) : List AV := [(.int .u8 x)]
def eI64 (x : Int) : List AV := [(.int .i64 x)]
def eU32 (x : Int) : List AV := [(.int .u32 x)]
theorem mix : Try.prog.follows .mixedOrders = true := by kernel_rfl
noncomputable def m_num_Put_F1  : (Int × List (Int)) → Option (LR (Int × List (Int)) (List (Int))) :=
  fun (s_ : (Int × List (Int))) => match s_ with | (i1, l2) => (bif (decide (((128 : Int) : Int) ≤ i1)) then (chk (l2.length + ([(bitsV .or .u8 (wu8 (bitsV .and .u64 i1 (127 : Int))) (128 : Int))] : List (Int)).length ≤ room) (some (.next ((shrV .u64 i1 (7 : Int)), (l2 ++ ([(bitsV .or .u8 (wu8 (bitsV .and .u64 i1 (127 : Int))) (128 : Int))] : List (Int))))))) else (chk (l2.length + ([(wu8 i1)] : List (Int)).length ≤ room) (some (.done (l2 ++ ([(wu8 i1)] : List (Int)))))))
noncomputable def m_num_Put (a_v : Int) : Option (List (Int)) :=
  ((scopeO (S := (Int × List (Int))) (X := List (Int)) (bif (decide (((128 : Int) : Int) ≤ a_v)) then (chk (([] : List Int).length + ([(bitsV .or .u8 (wu8 (bitsV .and .u64 a_v (127 : Int))) (128 : Int))] : List (Int)).length ≤ room) (some (.next ((shrV .u64 a_v (7 : Int)), (([] : List Int) ++ ([(bitsV .or .u8 (wu8 (bitsV .and .u64 a_v (127 : Int))) (128 : Int))] : List (Int))))))) else (chk (([] : List Int).length + ([(wu8 a_v)] : List (Int)).length ≤ room) (some (.done (([] : List Int) ++ ([(wu8 a_v)] : List (Int))))))) m_num_Put_F1).bind (fun x7 => (match x7 with | r8 => (some r8))))
theorem ok_num_Put (a_v : Int) (r : List (Int)) (h : m_num_Put a_v = some r) : Spec Try.prog 9 [(.int .u64 a_v)] [] (AV.list 1 eU8 (0 : Int) r (.own 20000)) [(20000, .tok 1 5 r.length)] := by
  refine spec_of_awp (fn := Try.f9) Try.func9 rfl rfl (by kernel_rfl) (fun Γ hn hΓ => ?_)
  have hn : Γ.n = 20 := hn
  unfold m_num_Put at h
  refine awp_seq ?_
  refine awp_region (rs := []) (cs := [(2, (AV.list 1 eU8 (0 : Int) ([] : List Int) .exact))]) (live := [0]) (names := []) (st' := (⟨[(0, (.int .u64 a_v))], []⟩ : St)) (obs := [(AVle (.slice 0 0 (fun _ => []) .exact) (AV.list 1 eU8 (0 : Int) ([] : List Int) .exact))]) hn mix (no_hand hΓ) (by kernel_rfl) ⟨av_nil, trivial⟩ ?_
  refine then_normal ?_
  obtain ⟨x7, hx7, h⟩ := bind_some h
  refine awp_scope (S := (Int × List (Int))) (X := List (Int)) (fun (s_ : (Int × List (Int))) => match s_ with | (i1, l2) => 0) (fun (s_ : (Int × List (Int))) => match s_ with | (i1, l2) => (⟨[(0, (.int .u64 i1)), (3, (AV.list 1 eU8 (0 : Int) l2 (.own 12)))], [(12, .tok 1 5 l2.length)]⟩ : St)) _ _ (fun (r_ : List (Int)) (e : Exit) (st : St) => e = .ret ∧ retK Try.prog Try.f9.results.toList [] (AV.list 1 eU8 (0 : Int) r_ (.own 20000)) [(20000, .tok 1 5 r_.length)] e st) ?_ ?_ hx7 ?_
  · clear h hx7
    intro y h
    refine awp_seq ?_
    refine awp_region (rs := []) (cs := [(3, (AV.list 1 eU8 (0 : Int) ([] : List Int) .exact))]) (live := [0, 3]) (names := []) (st' := (⟨[(0, (.int .u64 a_v)), (3, (AV.list 1 eU8 (0 : Int) ([] : List Int) .exact))], []⟩ : St)) (obs := [(AVle (.slice 0 0 (fun _ => []) .exact) (AV.list 1 eU8 (0 : Int) ([] : List Int) .exact))]) hn mix (no_hand hΓ) (by kernel_rfl) ⟨av_nil, trivial⟩ ?_
    refine then_normal ?_
    refine awp_seq ?_
    refine awp_label ?_
    refine then_normal ?_
    refine awp_seq ?_
    refine awp_seq ?_
    refine awp_region (rs := []) (cs := []) (live := [0, 3, 5]) (names := []) (st' := (⟨[(0, (.int .u64 a_v)), (3, (AV.list 1 eU8 (0 : Int) ([] : List Int) .exact)), (5, (.bool (decide (((128 : Int) : Int) ≤ a_v))))], []⟩ : St)) (obs := []) hn mix (no_hand hΓ) (by kernel_rfl) trivial ?_
    refine then_normal ?_
    refine awp_cond (decide (((128 : Int) : Int) ≤ a_v)) (by kernel_rfl) (fun hb => ?_) (fun hb => ?_)
    · replace h := cond_t hb h
      clear hb
      refine awp_seq ?_
      obtain ⟨hc3, h⟩ := chk_some h
      refine awp_region (rs := []) (cs := [(11, (AV.list 1 eU8 (0 : Int) ([(bitsV .or .u8 (wu8 (bitsV .and .u64 a_v (127 : Int))) (128 : Int))] : List (Int)) .exact)), (12, (AV.list 1 eU8 (0 : Int) (([] : List Int) ++ ([(bitsV .or .u8 (wu8 (bitsV .and .u64 a_v (127 : Int))) (128 : Int))] : List (Int))) (.own 12)))]) (live := [0, 3]) (names := [12]) (st' := (⟨[(0, (.int .u64 a_v)), (3, (AV.list 1 eU8 (0 : Int) (([] : List Int) ++ ([(bitsV .or .u8 (wu8 (bitsV .and .u64 a_v (127 : Int))) (128 : Int))] : List (Int))) (.own 12)))], [(12, .tok 1 5 ((([] : List Int) ++ ([(bitsV .or .u8 (wu8 (bitsV .and .u64 a_v (127 : Int))) (128 : Int))] : List (Int))).length))]⟩ : St)) (obs := [(AVle (.slice 1 1 (fun i => ([[(.int .u8 (bitsV .or .u8 (wu8 (bitsV .and .u64 a_v (127 : Int))) (128 : Int)))]] : List (List AV)).getD i []) .exact) (AV.list 1 eU8 (0 : Int) ([(bitsV .or .u8 (wu8 (bitsV .and .u64 a_v (127 : Int))) (128 : Int))] : List (Int)) .exact)), (([] : List Int).length + ([(bitsV .or .u8 (wu8 (bitsV .and .u64 a_v (127 : Int))) (128 : Int))] : List (Int)).length ≤ room), (AVle (.slice 1 (([] : List Int).length + ([(bitsV .or .u8 (wu8 (bitsV .and .u64 a_v (127 : Int))) (128 : Int))] : List (Int)).length) (appF ([] : List Int).length (fun i => eU8 (([] : List Int).getD i (0 : Int))) (fun i => eU8 (([(bitsV .or .u8 (wu8 (bitsV .and .u64 a_v (127 : Int))) (128 : Int))] : List (Int)).getD i (0 : Int)))) (.own 12)) (AV.list 1 eU8 (0 : Int) (([] : List Int) ++ ([(bitsV .or .u8 (wu8 (bitsV .and .u64 a_v (127 : Int))) (128 : Int))] : List (Int))) (.own 12))), (([] : List Int).length + ([(bitsV .or .u8 (wu8 (bitsV .and .u64 a_v (127 : Int))) (128 : Int))] : List (Int)).length = (([] : List Int) ++ ([(bitsV .or .u8 (wu8 (bitsV .and .u64 a_v (127 : Int))) (128 : Int))] : List (Int))).length)]) hn mix (no_hand hΓ) (by kernel_rfl) ⟨(av_lit rfl (fun i hi => map_get (e := eU8) (d := (0 : Int)) ([(bitsV .or .u8 (wu8 (bitsV .and .u64 a_v (127 : Int))) (128 : Int))] : List (Int)) i hi)), hc3, av_app, (len_app _ _), trivial⟩ ?_
      refine then_normal ?_
      refine awp_seq ?_
      refine awp_region (rs := []) (cs := []) (live := [0, 3]) (names := [12]) (st' := (⟨[(0, (.int .u64 (shrV .u64 a_v (7 : Int)))), (3, (AV.list 1 eU8 (0 : Int) (([] : List Int) ++ ([(bitsV .or .u8 (wu8 (bitsV .and .u64 a_v (127 : Int))) (128 : Int))] : List (Int))) (.own 12)))], [(12, .tok 1 5 ((([] : List Int) ++ ([(bitsV .or .u8 (wu8 (bitsV .and .u64 a_v (127 : Int))) (128 : Int))] : List (Int))).length))]⟩ : St)) (obs := [(0 ≤ (7 : Int))]) hn mix (no_hand hΓ) (by kernel_rfl) ⟨(by decide), trivial⟩ ?_
      refine then_normal ?_
      refine awp_goto ?_
      refine then_goto ?_
      obtain rfl := Option.some.inj h
      exact ⟨rfl, rfl, Le.refl _ _⟩
    · replace h := cond_f hb h
      clear hb
      refine awp_skip ?_
      refine then_normal ?_
      refine awp_seq ?_
      obtain ⟨hc4, h⟩ := chk_some h
      refine awp_region (rs := []) (cs := [(18, (AV.list 1 eU8 (0 : Int) ([(wu8 a_v)] : List (Int)) .exact)), (19, (AV.list 1 eU8 (0 : Int) (([] : List Int) ++ ([(wu8 a_v)] : List (Int))) (.own 19)))]) (live := [2]) (names := [19]) (st' := (⟨[(2, (AV.list 1 eU8 (0 : Int) (([] : List Int) ++ ([(wu8 a_v)] : List (Int))) (.own 19)))], [(19, .tok 1 5 ((([] : List Int) ++ ([(wu8 a_v)] : List (Int))).length))]⟩ : St)) (obs := [(AVle (.slice 1 1 (fun i => ([[(.int .u8 (wu8 a_v))]] : List (List AV)).getD i []) .exact) (AV.list 1 eU8 (0 : Int) ([(wu8 a_v)] : List (Int)) .exact)), (([] : List Int).length + ([(wu8 a_v)] : List (Int)).length ≤ room), (AVle (.slice 1 (([] : List Int).length + ([(wu8 a_v)] : List (Int)).length) (appF ([] : List Int).length (fun i => eU8 (([] : List Int).getD i (0 : Int))) (fun i => eU8 (([(wu8 a_v)] : List (Int)).getD i (0 : Int)))) (.own 19)) (AV.list 1 eU8 (0 : Int) (([] : List Int) ++ ([(wu8 a_v)] : List (Int))) (.own 19))), (([] : List Int).length + ([(wu8 a_v)] : List (Int)).length = (([] : List Int) ++ ([(wu8 a_v)] : List (Int))).length)]) hn mix (no_hand hΓ) (by kernel_rfl) ⟨(av_lit rfl (fun i hi => map_get (e := eU8) (d := (0 : Int)) ([(wu8 a_v)] : List (Int)) i hi)), hc4, av_app, (len_app _ _), trivial⟩ ?_
      refine then_normal ?_
      refine awp_ret ?_
      obtain rfl := Option.some.inj h
      exact ⟨(by intro l hh; cases hh), rfl, ⟨.inl rfl, [(19, 20000)], by kernel_rfl⟩⟩
  · clear h hx7
    rintro ⟨i1, l2⟩ y rest hf h
    obtain rfl := Option.some.inj hf
    clear hf
    unfold m_num_Put_F1 at h
    refine awp_seq ?_
    refine awp_skip ?_
    refine then_normal ?_
    refine awp_seq ?_
    refine awp_seq ?_
    refine awp_region (rs := []) (cs := []) (live := [0, 3, 5]) (names := [12]) (st' := (⟨[(0, (.int .u64 i1)), (3, (AV.list 1 eU8 (0 : Int) l2 (.own 12))), (5, (.bool (decide (((128 : Int) : Int) ≤ i1))))], [(12, .tok 1 5 l2.length)]⟩ : St)) (obs := []) hn mix (no_hand hΓ) (by kernel_rfl) trivial ?_
    refine then_normal ?_
    refine awp_cond (decide (((128 : Int) : Int) ≤ i1)) (by kernel_rfl) (fun hb => ?_) (fun hb => ?_)
    · replace h := cond_t hb h
      clear hb
      refine awp_seq ?_
      obtain ⟨hc5, h⟩ := chk_some h
      refine awp_region (rs := []) (cs := [(11, (AV.list 1 eU8 (0 : Int) ([(bitsV .or .u8 (wu8 (bitsV .and .u64 i1 (127 : Int))) (128 : Int))] : List (Int)) .exact)), (12, (AV.list 1 eU8 (0 : Int) (l2 ++ ([(bitsV .or .u8 (wu8 (bitsV .and .u64 i1 (127 : Int))) (128 : Int))] : List (Int))) (.own 12)))]) (live := [0, 3]) (names := [12]) (st' := (⟨[(0, (.int .u64 i1)), (3, (AV.list 1 eU8 (0 : Int) (l2 ++ ([(bitsV .or .u8 (wu8 (bitsV .and .u64 i1 (127 : Int))) (128 : Int))] : List (Int))) (.own 12)))], [(12, .tok 1 5 ((l2 ++ ([(bitsV .or .u8 (wu8 (bitsV .and .u64 i1 (127 : Int))) (128 : Int))] : List (Int))).length))]⟩ : St)) (obs := [(AVle (.slice 1 1 (fun i => ([[(.int .u8 (bitsV .or .u8 (wu8 (bitsV .and .u64 i1 (127 : Int))) (128 : Int)))]] : List (List AV)).getD i []) .exact) (AV.list 1 eU8 (0 : Int) ([(bitsV .or .u8 (wu8 (bitsV .and .u64 i1 (127 : Int))) (128 : Int))] : List (Int)) .exact)), (l2.length = l2.length), (l2.length + ([(bitsV .or .u8 (wu8 (bitsV .and .u64 i1 (127 : Int))) (128 : Int))] : List (Int)).length ≤ room), (AVle (.slice 1 (l2.length + ([(bitsV .or .u8 (wu8 (bitsV .and .u64 i1 (127 : Int))) (128 : Int))] : List (Int)).length) (appF l2.length (fun i => eU8 (l2.getD i (0 : Int))) (fun i => eU8 (([(bitsV .or .u8 (wu8 (bitsV .and .u64 i1 (127 : Int))) (128 : Int))] : List (Int)).getD i (0 : Int)))) (.own 12)) (AV.list 1 eU8 (0 : Int) (l2 ++ ([(bitsV .or .u8 (wu8 (bitsV .and .u64 i1 (127 : Int))) (128 : Int))] : List (Int))) (.own 12))), (l2.length + ([(bitsV .or .u8 (wu8 (bitsV .and .u64 i1 (127 : Int))) (128 : Int))] : List (Int)).length = (l2 ++ ([(bitsV .or .u8 (wu8 (bitsV .and .u64 i1 (127 : Int))) (128 : Int))] : List (Int))).length)]) hn mix (no_hand hΓ) (by kernel_rfl) ⟨(av_lit rfl (fun i hi => map_get (e := eU8) (d := (0 : Int)) ([(bitsV .or .u8 (wu8 (bitsV .and .u64 i1 (127 : Int))) (128 : Int))] : List (Int)) i hi)), rfl, hc5, av_app, (len_app _ _), trivial⟩ ?_
      refine then_normal ?_
      refine awp_seq ?_
      refine awp_region (rs := []) (cs := []) (live := [0, 3]) (names := [12]) (st' := (⟨[(0, (.int .u64 (shrV .u64 i1 (7 : Int)))), (3, (AV.list 1 eU8 (0 : Int) (l2 ++ ([(bitsV .or .u8 (wu8 (bitsV .and .u64 i1 (127 : Int))) (128 : Int))] : List (Int))) (.own 12)))], [(12, .tok 1 5 ((l2 ++ ([(bitsV .or .u8 (wu8 (bitsV .and .u64 i1 (127 : Int))) (128 : Int))] : List (Int))).length))]⟩ : St)) (obs := [(0 ≤ (7 : Int))]) hn mix (no_hand hΓ) (by kernel_rfl) ⟨(by decide), trivial⟩ ?_
      refine then_normal ?_
      refine awp_goto ?_
      refine then_goto ?_
      obtain rfl := Option.some.inj h
      exact ⟨rfl, rfl, Le.refl _ _⟩
    · replace h := cond_f hb h
      clear hb
      refine awp_skip ?_
      refine then_normal ?_
      refine awp_seq ?_
      obtain ⟨hc6, h⟩ := chk_some h
      refine awp_region (rs := []) (cs := [(18, (AV.list 1 eU8 (0 : Int) ([(wu8 i1)] : List (Int)) .exact)), (19, (AV.list 1 eU8 (0 : Int) (l2 ++ ([(wu8 i1)] : List (Int))) (.own 12)))]) (live := [2]) (names := [12]) (st' := (⟨[(2, (AV.list 1 eU8 (0 : Int) (l2 ++ ([(wu8 i1)] : List (Int))) (.own 12)))], [(12, .tok 1 5 ((l2 ++ ([(wu8 i1)] : List (Int))).length))]⟩ : St)) (obs := [(AVle (.slice 1 1 (fun i => ([[(.int .u8 (wu8 i1))]] : List (List AV)).getD i []) .exact) (AV.list 1 eU8 (0 : Int) ([(wu8 i1)] : List (Int)) .exact)), (l2.length = l2.length), (l2.length + ([(wu8 i1)] : List (Int)).length ≤ room), (AVle (.slice 1 (l2.length + ([(wu8 i1)] : List (Int)).length) (appF l2.length (fun i => eU8 (l2.getD i (0 : Int))) (fun i => eU8 (([(wu8 i1)] : List (Int)).getD i (0 : Int)))) (.own 12)) (AV.list 1 eU8 (0 : Int) (l2 ++ ([(wu8 i1)] : List (Int))) (.own 12))), (l2.length + ([(wu8 i1)] : List (Int)).length = (l2 ++ ([(wu8 i1)] : List (Int))).length)]) hn mix (no_hand hΓ) (by kernel_rfl) ⟨(av_lit rfl (fun i hi => map_get (e := eU8) (d := (0 : Int)) ([(wu8 i1)] : List (Int)) i hi)), rfl, hc6, av_app, (len_app _ _), trivial⟩ ?_
      refine then_normal ?_
      refine awp_ret ?_
      obtain rfl := Option.some.inj h
      exact ⟨(by intro l hh; cases hh), rfl, ⟨.inl rfl, [(12, 20000)], by kernel_rfl⟩⟩
  · clear hx7
    rcases x7 with r8
    rintro e st' ⟨rfl, hk⟩
    obtain rfl := Option.some.inj h
    exact hk

noncomputable def m_num_ends (a_n : Int) (a_last : Int) : Option Bool :=
  (some (bif ((a_n : Int) == (1 : Int)) then true else (bif ((a_last : Int) != (0 : Int)) then (bif (decide ((a_n : Int) < (10 : Int))) then true else ((a_last : Int) == (1 : Int))) else false)))
theorem ok_num_ends (a_n : Int) (a_last : Int) (r : Bool) (h : m_num_ends a_n a_last = some r) : Spec Try.prog 17 [(.int .i64 a_n), (.int .u8 a_last)] [] (.bool r) [] := by
  refine spec_of_awp (fn := Try.f17) Try.func17 rfl rfl (by kernel_rfl) (fun Γ hn hΓ => ?_)
  have hn : Γ.n = 19 := hn
  unfold m_num_ends at h
  refine awp_seq ?_
  refine awp_region (rs := []) (cs := []) (live := [0, 1]) (names := []) (st' := (⟨[(0, (.int .i64 a_n)), (1, (.int .u8 a_last))], []⟩ : St)) (obs := []) hn mix (no_hand hΓ) (by kernel_rfl) trivial ?_
  refine then_normal ?_
  refine awp_seq ?_
  refine awp_region (rs := []) (cs := []) (live := [4]) (names := []) (st' := (⟨[(4, (.bool (bif ((a_n : Int) == (1 : Int)) then true else (bif ((a_last : Int) != (0 : Int)) then (bif (decide ((a_n : Int) < (10 : Int))) then true else ((a_last : Int) == (1 : Int))) else false))))], []⟩ : St)) (obs := [((((a_n : Int) == (1 : Int)) == false) = true → (((a_n : Int) == (1 : Int)) == false) = true), ((((a_n : Int) == (1 : Int)) == false) = true → (((a_n : Int) == (1 : Int)) == false) = true), (((((a_n : Int) == (1 : Int)) == false) && (((a_last : Int) != (0 : Int)) == true)) = true → ((((a_n : Int) == (1 : Int)) == false) && (((a_last : Int) != (0 : Int)) == true)) = true), (((((a_n : Int) == (1 : Int)) == false) && (((a_last : Int) != (0 : Int)) == true)) = true → ((((a_n : Int) == (1 : Int)) == false) && (((a_last : Int) != (0 : Int)) == true)) = true), ((((((a_n : Int) == (1 : Int)) == false) && (((a_last : Int) != (0 : Int)) == true)) && ((decide ((a_n : Int) < (10 : Int))) == false)) = true → (((((a_n : Int) == (1 : Int)) == false) && (((a_last : Int) != (0 : Int)) == true)) && ((decide ((a_n : Int) < (10 : Int))) == false)) = true), (((((a_n : Int) == (1 : Int)) == false) && (((a_last : Int) != (0 : Int)) == true)) = true → ((((a_n : Int) == (1 : Int)) == false) && (((a_last : Int) != (0 : Int)) == true)) = true), (((((a_n : Int) == (1 : Int)) == false) && (((a_last : Int) != (0 : Int)) == true)) = true → ((decide ((a_n : Int) < (10 : Int))) = false → (((((a_n : Int) == (1 : Int)) == false) && (((a_last : Int) != (0 : Int)) == true)) && ((decide ((a_n : Int) < (10 : Int))) == false)) = true)), ((((a_n : Int) == (1 : Int)) == false) = true → (((a_n : Int) == (1 : Int)) == false) = true), ((((a_n : Int) == (1 : Int)) == false) = true → (((a_last : Int) != (0 : Int)) = true → ((((a_n : Int) == (1 : Int)) == false) && (((a_last : Int) != (0 : Int)) == true)) = true)), (((a_n : Int) == (1 : Int)) = false → (((a_n : Int) == (1 : Int)) == false) = true)]) hn mix (no_hand hΓ) (by kernel_rfl) ⟨(fun hg => hg), (fun hg => hg), (fun hg => hg), (fun hg => hg), (fun hg => hg), (fun hg => hg), (fun hg => (fun hp => by rw [hg, hp]; rfl)), (fun hg => hg), (fun hg => (fun hp => by rw [hg, hp]; rfl)), (fun hp => by rw [hp]; rfl), trivial⟩ ?_
  refine then_normal ?_
  refine awp_ret ?_
  obtain rfl := Option.some.inj h
  exact ⟨.inl rfl, [], by kernel_rfl⟩

noncomputable def m_num_Get_F1 (a_b : List (Int)) : (Int × Int) → Option (LR (Int × Int) (Int × Int × Int)) :=
  fun (s_ : (Int × Int)) => match s_ with | (i1, i2) => (bif ((i2 : Int) == (10 : Int)) then (some (.done ((0 : Int), (0 : Int), (3 : Int)))) else (bif ((i2 : Int) == (a_b.length : Int)) then (some (.done ((0 : Int), (0 : Int), (2 : Int)))) else (chk (InB i2 a_b.length) (chk (0 ≤ (w64 ((7 : Int) * i2))) (chk (InB (w64 ((w64 (i2 + (1 : Int))) - (1 : Int))) a_b.length) (bif (decide (((128 : Int) : Int) ≤ (a_b.getD ((w64 ((w64 (i2 + (1 : Int))) - (1 : Int)))).toNat (0 : Int)))) then (some (.next ((bitsV .or .u64 i1 (shlV .u64 (wu64 (bitsV .and .u8 (a_b.getD (i2).toNat (0 : Int)) (127 : Int))) (w64 ((7 : Int) * i2)))), (w64 (i2 + (1 : Int)))))) else (chk (InB (w64 ((w64 (i2 + (1 : Int))) - (1 : Int))) a_b.length) ((m_num_ends (w64 (i2 + (1 : Int))) (a_b.getD ((w64 ((w64 (i2 + (1 : Int))) - (1 : Int)))).toNat (0 : Int))).bind fun x12 => (bif (!x12) then (some (.done ((0 : Int), (0 : Int), (3 : Int)))) else (some (.done ((bitsV .or .u64 i1 (shlV .u64 (wu64 (bitsV .and .u8 (a_b.getD (i2).toNat (0 : Int)) (127 : Int))) (w64 ((7 : Int) * i2)))), (w64 (i2 + (1 : Int))), (0 : Int)))))))))))))
noncomputable def m_num_Get (a_b : List (Int)) : Option (Int × Int × Int) :=
  ((scopeO (S := (Int × Int)) (X := (Int × Int × Int)) (bif (((0 : Int) : Int) == (10 : Int)) then (some (.done ((0 : Int), (0 : Int), (3 : Int)))) else (bif (((0 : Int) : Int) == (a_b.length : Int)) then (some (.done ((0 : Int), (0 : Int), (2 : Int)))) else (chk (InB (0 : Int) a_b.length) (chk (0 ≤ (w64 ((7 : Int) * (0 : Int)))) (chk (InB (w64 ((w64 ((0 : Int) + (1 : Int))) - (1 : Int))) a_b.length) (bif (decide (((128 : Int) : Int) ≤ (a_b.getD ((w64 ((w64 ((0 : Int) + (1 : Int))) - (1 : Int)))).toNat (0 : Int)))) then (some (.next ((bitsV .or .u64 (0 : Int) (shlV .u64 (wu64 (bitsV .and .u8 (a_b.getD ((0 : Int)).toNat (0 : Int)) (127 : Int))) (w64 ((7 : Int) * (0 : Int))))), (w64 ((0 : Int) + (1 : Int)))))) else (chk (InB (w64 ((w64 ((0 : Int) + (1 : Int))) - (1 : Int))) a_b.length) ((m_num_ends (w64 ((0 : Int) + (1 : Int))) (a_b.getD ((w64 ((w64 ((0 : Int) + (1 : Int))) - (1 : Int)))).toNat (0 : Int))).bind fun x7 => (bif (!x7) then (some (.done ((0 : Int), (0 : Int), (3 : Int)))) else (some (.done ((bitsV .or .u64 (0 : Int) (shlV .u64 (wu64 (bitsV .and .u8 (a_b.getD ((0 : Int)).toNat (0 : Int)) (127 : Int))) (w64 ((7 : Int) * (0 : Int))))), (w64 ((0 : Int) + (1 : Int))), (0 : Int))))))))))))) (m_num_Get_F1 a_b)).bind (fun x13 => (match x13 with | r14 => (some r14))))
theorem ok_num_Get (a_b : List (Int)) (r : (Int × Int × Int)) (h : m_num_Get a_b = some r) : Spec Try.prog 10 [(AV.list 1 eU8 (0 : Int) a_b .none)] [] (.tuple [(.int .u64 r.1), (.int .i64 r.2.1), (.int .i64 r.2.2)]) [] := by
  refine spec_of_awp (fn := Try.f10) Try.func10 rfl rfl (by kernel_rfl) (fun Γ hn hΓ => ?_)
  have hn : Γ.n = 42 := hn
  unfold m_num_Get at h
  refine awp_seq ?_
  refine awp_region (rs := []) (cs := []) (live := [0]) (names := []) (st' := (⟨[(0, (AV.list 1 eU8 (0 : Int) a_b .none))], []⟩ : St)) (obs := []) hn mix (no_hand hΓ) (by kernel_rfl) trivial ?_
  refine then_normal ?_
  obtain ⟨x13, hx13, h⟩ := bind_some h
  refine awp_scope (S := (Int × Int)) (X := (Int × Int × Int)) (fun (s_ : (Int × Int)) => match s_ with | (i1, i2) => 0) (fun (s_ : (Int × Int)) => match s_ with | (i1, i2) => (⟨[(0, (AV.list 1 eU8 (0 : Int) a_b .none)), (5, (.int .u64 i1)), (6, (.int .i64 i2))], []⟩ : St)) _ _ (fun (r_ : (Int × Int × Int)) (e : Exit) (st : St) => e = .ret ∧ retK Try.prog Try.f10.results.toList [] (.tuple [(.int .u64 r_.1), (.int .i64 r_.2.1), (.int .i64 r_.2.2)]) [] e st) ?_ ?_ hx13 ?_
  · clear h hx13
    intro y h
    refine awp_seq ?_
    refine awp_region (rs := []) (cs := []) (live := [0, 5]) (names := []) (st' := (⟨[(0, (AV.list 1 eU8 (0 : Int) a_b .none)), (5, (.int .u64 (0 : Int)))], []⟩ : St)) (obs := []) hn mix (no_hand hΓ) (by kernel_rfl) trivial ?_
    refine then_normal ?_
    refine awp_seq ?_
    refine awp_region (rs := []) (cs := []) (live := [0, 5, 6]) (names := []) (st' := (⟨[(0, (AV.list 1 eU8 (0 : Int) a_b .none)), (5, (.int .u64 (0 : Int))), (6, (.int .i64 (0 : Int)))], []⟩ : St)) (obs := []) hn mix (no_hand hΓ) (by kernel_rfl) trivial ?_
    refine then_normal ?_
    refine awp_seq ?_
    refine awp_label ?_
    refine then_normal ?_
    refine awp_seq ?_
    refine awp_seq ?_
    refine awp_region (rs := []) (cs := []) (live := [0, 5, 6, 8]) (names := []) (st' := (⟨[(0, (AV.list 1 eU8 (0 : Int) a_b .none)), (5, (.int .u64 (0 : Int))), (6, (.int .i64 (0 : Int))), (8, (.bool (((0 : Int) : Int) == (10 : Int))))], []⟩ : St)) (obs := []) hn mix (no_hand hΓ) (by kernel_rfl) trivial ?_
    refine then_normal ?_
    refine awp_cond (((0 : Int) : Int) == (10 : Int)) (by kernel_rfl) (fun hb => ?_) (fun hb => ?_)
    · replace h := cond_t hb h
      clear hb
      refine awp_seq ?_
      refine awp_region (rs := []) (cs := []) (live := [2, 3, 4]) (names := []) (st' := (⟨[(2, (.int .u64 (0 : Int))), (3, (.int .i64 (0 : Int))), (4, (.int .i64 (3 : Int)))], []⟩ : St)) (obs := []) hn mix (no_hand hΓ) (by kernel_rfl) trivial ?_
      refine then_normal ?_
      refine awp_ret ?_
      refine then_ret ?_
      obtain rfl := Option.some.inj h
      exact ⟨(by intro l hh; cases hh), rfl, ⟨.inl rfl, [], by kernel_rfl⟩⟩
    · replace h := cond_f hb h
      clear hb
      refine awp_skip ?_
      refine then_normal ?_
      refine awp_seq ?_
      refine awp_seq ?_
      refine awp_region (rs := []) (cs := []) (live := [0, 5, 6, 12]) (names := []) (st' := (⟨[(0, (AV.list 1 eU8 (0 : Int) a_b .none)), (5, (.int .u64 (0 : Int))), (6, (.int .i64 (0 : Int))), (12, (.bool (((0 : Int) : Int) == (a_b.length : Int))))], []⟩ : St)) (obs := []) hn mix (no_hand hΓ) (by kernel_rfl) trivial ?_
      refine then_normal ?_
      refine awp_cond (((0 : Int) : Int) == (a_b.length : Int)) (by kernel_rfl) (fun hb => ?_) (fun hb => ?_)
      · replace h := cond_t hb h
        clear hb
        refine awp_seq ?_
        refine awp_region (rs := []) (cs := []) (live := [2, 3, 4]) (names := []) (st' := (⟨[(2, (.int .u64 (0 : Int))), (3, (.int .i64 (0 : Int))), (4, (.int .i64 (2 : Int)))], []⟩ : St)) (obs := []) hn mix (no_hand hΓ) (by kernel_rfl) trivial ?_
        refine then_normal ?_
        refine awp_ret ?_
        refine then_ret ?_
        obtain rfl := Option.some.inj h
        exact ⟨(by intro l hh; cases hh), rfl, ⟨.inl rfl, [], by kernel_rfl⟩⟩
      · replace h := cond_f hb h
        clear hb
        refine awp_skip ?_
        refine then_normal ?_
        refine awp_seq ?_
        obtain ⟨hc3, h⟩ := chk_some h
        obtain ⟨hc4, h⟩ := chk_some h
        refine awp_region (rs := []) (cs := []) (live := [0, 5, 6]) (names := []) (st' := (⟨[(0, (AV.list 1 eU8 (0 : Int) a_b .none)), (5, (.int .u64 (bitsV .or .u64 (0 : Int) (shlV .u64 (wu64 (bitsV .and .u8 (a_b.getD ((0 : Int)).toNat (0 : Int)) (127 : Int))) (w64 ((7 : Int) * (0 : Int))))))), (6, (.int .i64 (0 : Int)))], []⟩ : St)) (obs := [(InB (0 : Int) a_b.length), (0 ≤ (w64 ((7 : Int) * (0 : Int))))]) hn mix (no_hand hΓ) (by kernel_rfl) ⟨hc3, hc4, trivial⟩ ?_
        refine then_normal ?_
        refine awp_seq ?_
        refine awp_region (rs := []) (cs := []) (live := [0, 5, 6]) (names := []) (st' := (⟨[(0, (AV.list 1 eU8 (0 : Int) a_b .none)), (5, (.int .u64 (bitsV .or .u64 (0 : Int) (shlV .u64 (wu64 (bitsV .and .u8 (a_b.getD ((0 : Int)).toNat (0 : Int)) (127 : Int))) (w64 ((7 : Int) * (0 : Int))))))), (6, (.int .i64 (w64 ((0 : Int) + (1 : Int)))))], []⟩ : St)) (obs := []) hn mix (no_hand hΓ) (by kernel_rfl) trivial ?_
        refine then_normal ?_
        refine awp_seq ?_
        refine awp_seq ?_
        obtain ⟨hc5, h⟩ := chk_some h
        refine awp_region (rs := []) (cs := []) (live := [0, 5, 6, 31]) (names := []) (st' := (⟨[(0, (AV.list 1 eU8 (0 : Int) a_b .none)), (5, (.int .u64 (bitsV .or .u64 (0 : Int) (shlV .u64 (wu64 (bitsV .and .u8 (a_b.getD ((0 : Int)).toNat (0 : Int)) (127 : Int))) (w64 ((7 : Int) * (0 : Int))))))), (6, (.int .i64 (w64 ((0 : Int) + (1 : Int))))), (31, (.bool (decide (((128 : Int) : Int) ≤ (a_b.getD ((w64 ((w64 ((0 : Int) + (1 : Int))) - (1 : Int)))).toNat (0 : Int))))))], []⟩ : St)) (obs := [(InB (w64 ((w64 ((0 : Int) + (1 : Int))) - (1 : Int))) a_b.length)]) hn mix (no_hand hΓ) (by kernel_rfl) ⟨hc5, trivial⟩ ?_
        refine then_normal ?_
        refine awp_cond (decide (((128 : Int) : Int) ≤ (a_b.getD ((w64 ((w64 ((0 : Int) + (1 : Int))) - (1 : Int)))).toNat (0 : Int)))) (by kernel_rfl) (fun hb => ?_) (fun hb => ?_)
        · replace h := cond_t hb h
          clear hb
          refine awp_goto ?_
          refine then_goto ?_
          obtain rfl := Option.some.inj h
          exact ⟨rfl, rfl, le_restrict_eq [0, 5, 6] [] (by kernel_rfl) (no_hand hΓ)⟩
        · replace h := cond_f hb h
          clear hb
          refine awp_skip ?_
          refine then_normal ?_
          refine awp_seq ?_
          refine awp_seq ?_
          obtain ⟨hc6, h⟩ := chk_some h
          obtain ⟨x7, hx7, h⟩ := bind_some h
          refine awp_region (rs := [⟨[], [], (.bool x7), []⟩]) (cs := []) (live := [5, 6, 39]) (names := []) (st' := (⟨[(5, (.int .u64 (bitsV .or .u64 (0 : Int) (shlV .u64 (wu64 (bitsV .and .u8 (a_b.getD ((0 : Int)).toNat (0 : Int)) (127 : Int))) (w64 ((7 : Int) * (0 : Int))))))), (6, (.int .i64 (w64 ((0 : Int) + (1 : Int))))), (39, (.bool (!x7)))], []⟩ : St)) (obs := [(InB (w64 ((w64 ((0 : Int) + (1 : Int))) - (1 : Int))) a_b.length), (Spec Try.prog 17 [(.int .i64 (w64 ((0 : Int) + (1 : Int)))), (.int .u8 (a_b.getD ((w64 ((w64 ((0 : Int) + (1 : Int))) - (1 : Int)))).toNat (0 : Int)))] [] (.bool x7) [])]) hn mix (no_hand hΓ) (by kernel_rfl) ⟨hc6, (ok_num_ends (w64 ((0 : Int) + (1 : Int))) (a_b.getD ((w64 ((w64 ((0 : Int) + (1 : Int))) - (1 : Int)))).toNat (0 : Int)) x7 hx7), trivial⟩ ?_
          refine then_normal ?_
          refine awp_cond (!x7) (by kernel_rfl) (fun hb => ?_) (fun hb => ?_)
          · replace h := cond_t hb h
            clear hb
            refine awp_seq ?_
            refine awp_region (rs := []) (cs := []) (live := [2, 3, 4]) (names := []) (st' := (⟨[(2, (.int .u64 (0 : Int))), (3, (.int .i64 (0 : Int))), (4, (.int .i64 (3 : Int)))], []⟩ : St)) (obs := []) hn mix (no_hand hΓ) (by kernel_rfl) trivial ?_
            refine then_normal ?_
            refine awp_ret ?_
            refine then_ret ?_
            obtain rfl := Option.some.inj h
            exact ⟨(by intro l hh; cases hh), rfl, ⟨.inl rfl, [], by kernel_rfl⟩⟩
          · replace h := cond_f hb h
            clear hb
            refine awp_skip ?_
            refine then_normal ?_
            refine awp_seq ?_
            refine awp_region (rs := []) (cs := []) (live := [2, 3, 4]) (names := []) (st' := (⟨[(2, (.int .u64 (bitsV .or .u64 (0 : Int) (shlV .u64 (wu64 (bitsV .and .u8 (a_b.getD ((0 : Int)).toNat (0 : Int)) (127 : Int))) (w64 ((7 : Int) * (0 : Int))))))), (3, (.int .i64 (w64 ((0 : Int) + (1 : Int))))), (4, (.int .i64 (0 : Int)))], []⟩ : St)) (obs := []) hn mix (no_hand hΓ) (by kernel_rfl) trivial ?_
            refine then_normal ?_
            refine awp_ret ?_
            obtain rfl := Option.some.inj h
            exact ⟨(by intro l hh; cases hh), rfl, ⟨.inl rfl, [], by kernel_rfl⟩⟩
  · clear h hx13
    rintro ⟨i1, i2⟩ y rest hf h
    obtain rfl := Option.some.inj hf
    clear hf
    unfold m_num_Get_F1 at h
    refine awp_seq ?_
    refine awp_skip ?_
    refine then_normal ?_
    refine awp_seq ?_
    refine awp_seq ?_
    refine awp_region (rs := []) (cs := []) (live := [0, 5, 6, 8]) (names := []) (st' := (⟨[(0, (AV.list 1 eU8 (0 : Int) a_b .none)), (5, (.int .u64 i1)), (6, (.int .i64 i2)), (8, (.bool ((i2 : Int) == (10 : Int))))], []⟩ : St)) (obs := []) hn mix (no_hand hΓ) (by kernel_rfl) trivial ?_
    refine then_normal ?_
    refine awp_cond ((i2 : Int) == (10 : Int)) (by kernel_rfl) (fun hb => ?_) (fun hb => ?_)
    · replace h := cond_t hb h
      clear hb
      refine awp_seq ?_
      refine awp_region (rs := []) (cs := []) (live := [2, 3, 4]) (names := []) (st' := (⟨[(2, (.int .u64 (0 : Int))), (3, (.int .i64 (0 : Int))), (4, (.int .i64 (3 : Int)))], []⟩ : St)) (obs := []) hn mix (no_hand hΓ) (by kernel_rfl) trivial ?_
      refine then_normal ?_
      refine awp_ret ?_
      refine then_ret ?_
      obtain rfl := Option.some.inj h
      exact ⟨(by intro l hh; cases hh), rfl, ⟨.inl rfl, [], by kernel_rfl⟩⟩
    · replace h := cond_f hb h
      clear hb
      refine awp_skip ?_
      refine then_normal ?_
      refine awp_seq ?_
      refine awp_seq ?_
      refine awp_region (rs := []) (cs := []) (live := [0, 5, 6, 12]) (names := []) (st' := (⟨[(0, (AV.list 1 eU8 (0 : Int) a_b .none)), (5, (.int .u64 i1)), (6, (.int .i64 i2)), (12, (.bool ((i2 : Int) == (a_b.length : Int))))], []⟩ : St)) (obs := []) hn mix (no_hand hΓ) (by kernel_rfl) trivial ?_
      refine then_normal ?_
      refine awp_cond ((i2 : Int) == (a_b.length : Int)) (by kernel_rfl) (fun hb => ?_) (fun hb => ?_)
      · replace h := cond_t hb h
        clear hb
        refine awp_seq ?_
        refine awp_region (rs := []) (cs := []) (live := [2, 3, 4]) (names := []) (st' := (⟨[(2, (.int .u64 (0 : Int))), (3, (.int .i64 (0 : Int))), (4, (.int .i64 (2 : Int)))], []⟩ : St)) (obs := []) hn mix (no_hand hΓ) (by kernel_rfl) trivial ?_
        refine then_normal ?_
        refine awp_ret ?_
        refine then_ret ?_
        obtain rfl := Option.some.inj h
        exact ⟨(by intro l hh; cases hh), rfl, ⟨.inl rfl, [], by kernel_rfl⟩⟩
      · replace h := cond_f hb h
        clear hb
        refine awp_skip ?_
        refine then_normal ?_
        refine awp_seq ?_
        obtain ⟨hc8, h⟩ := chk_some h
        obtain ⟨hc9, h⟩ := chk_some h
        refine awp_region (rs := []) (cs := []) (live := [0, 5, 6]) (names := []) (st' := (⟨[(0, (AV.list 1 eU8 (0 : Int) a_b .none)), (5, (.int .u64 (bitsV .or .u64 i1 (shlV .u64 (wu64 (bitsV .and .u8 (a_b.getD (i2).toNat (0 : Int)) (127 : Int))) (w64 ((7 : Int) * i2)))))), (6, (.int .i64 i2))], []⟩ : St)) (obs := [(InB i2 a_b.length), (0 ≤ (w64 ((7 : Int) * i2)))]) hn mix (no_hand hΓ) (by kernel_rfl) ⟨hc8, hc9, trivial⟩ ?_
        refine then_normal ?_
        refine awp_seq ?_
        refine awp_region (rs := []) (cs := []) (live := [0, 5, 6]) (names := []) (st' := (⟨[(0, (AV.list 1 eU8 (0 : Int) a_b .none)), (5, (.int .u64 (bitsV .or .u64 i1 (shlV .u64 (wu64 (bitsV .and .u8 (a_b.getD (i2).toNat (0 : Int)) (127 : Int))) (w64 ((7 : Int) * i2)))))), (6, (.int .i64 (w64 (i2 + (1 : Int)))))], []⟩ : St)) (obs := []) hn mix (no_hand hΓ) (by kernel_rfl) trivial ?_
        refine then_normal ?_
        refine awp_seq ?_
        refine awp_seq ?_
        obtain ⟨hc10, h⟩ := chk_some h
        refine awp_region (rs := []) (cs := []) (live := [0, 5, 6, 31]) (names := []) (st' := (⟨[(0, (AV.list 1 eU8 (0 : Int) a_b .none)), (5, (.int .u64 (bitsV .or .u64 i1 (shlV .u64 (wu64 (bitsV .and .u8 (a_b.getD (i2).toNat (0 : Int)) (127 : Int))) (w64 ((7 : Int) * i2)))))), (6, (.int .i64 (w64 (i2 + (1 : Int))))), (31, (.bool (decide (((128 : Int) : Int) ≤ (a_b.getD ((w64 ((w64 (i2 + (1 : Int))) - (1 : Int)))).toNat (0 : Int))))))], []⟩ : St)) (obs := [(InB (w64 ((w64 (i2 + (1 : Int))) - (1 : Int))) a_b.length)]) hn mix (no_hand hΓ) (by kernel_rfl) ⟨hc10, trivial⟩ ?_
        refine then_normal ?_
        refine awp_cond (decide (((128 : Int) : Int) ≤ (a_b.getD ((w64 ((w64 (i2 + (1 : Int))) - (1 : Int)))).toNat (0 : Int)))) (by kernel_rfl) (fun hb => ?_) (fun hb => ?_)
        · replace h := cond_t hb h
          clear hb
          refine awp_goto ?_
          refine then_goto ?_
          obtain rfl := Option.some.inj h
          exact ⟨rfl, rfl, le_restrict_eq [0, 5, 6] [] (by kernel_rfl) (no_hand hΓ)⟩
        · replace h := cond_f hb h
          clear hb
          refine awp_skip ?_
          refine then_normal ?_
          refine awp_seq ?_
          refine awp_seq ?_
          obtain ⟨hc11, h⟩ := chk_some h
          obtain ⟨x12, hx12, h⟩ := bind_some h
          refine awp_region (rs := [⟨[], [], (.bool x12), []⟩]) (cs := []) (live := [5, 6, 39]) (names := []) (st' := (⟨[(5, (.int .u64 (bitsV .or .u64 i1 (shlV .u64 (wu64 (bitsV .and .u8 (a_b.getD (i2).toNat (0 : Int)) (127 : Int))) (w64 ((7 : Int) * i2)))))), (6, (.int .i64 (w64 (i2 + (1 : Int))))), (39, (.bool (!x12)))], []⟩ : St)) (obs := [(InB (w64 ((w64 (i2 + (1 : Int))) - (1 : Int))) a_b.length), (Spec Try.prog 17 [(.int .i64 (w64 (i2 + (1 : Int)))), (.int .u8 (a_b.getD ((w64 ((w64 (i2 + (1 : Int))) - (1 : Int)))).toNat (0 : Int)))] [] (.bool x12) [])]) hn mix (no_hand hΓ) (by kernel_rfl) ⟨hc11, (ok_num_ends (w64 (i2 + (1 : Int))) (a_b.getD ((w64 ((w64 (i2 + (1 : Int))) - (1 : Int)))).toNat (0 : Int)) x12 hx12), trivial⟩ ?_
          refine then_normal ?_
          refine awp_cond (!x12) (by kernel_rfl) (fun hb => ?_) (fun hb => ?_)
          · replace h := cond_t hb h
            clear hb
            refine awp_seq ?_
            refine awp_region (rs := []) (cs := []) (live := [2, 3, 4]) (names := []) (st' := (⟨[(2, (.int .u64 (0 : Int))), (3, (.int .i64 (0 : Int))), (4, (.int .i64 (3 : Int)))], []⟩ : St)) (obs := []) hn mix (no_hand hΓ) (by kernel_rfl) trivial ?_
            refine then_normal ?_
            refine awp_ret ?_
            refine then_ret ?_
            obtain rfl := Option.some.inj h
            exact ⟨(by intro l hh; cases hh), rfl, ⟨.inl rfl, [], by kernel_rfl⟩⟩
          · replace h := cond_f hb h
            clear hb
            refine awp_skip ?_
            refine then_normal ?_
            refine awp_seq ?_
            refine awp_region (rs := []) (cs := []) (live := [2, 3, 4]) (names := []) (st' := (⟨[(2, (.int .u64 (bitsV .or .u64 i1 (shlV .u64 (wu64 (bitsV .and .u8 (a_b.getD (i2).toNat (0 : Int)) (127 : Int))) (w64 ((7 : Int) * i2)))))), (3, (.int .i64 (w64 (i2 + (1 : Int))))), (4, (.int .i64 (0 : Int)))], []⟩ : St)) (obs := []) hn mix (no_hand hΓ) (by kernel_rfl) trivial ?_
            refine then_normal ?_
            refine awp_ret ?_
            obtain rfl := Option.some.inj h
            exact ⟨(by intro l hh; cases hh), rfl, ⟨.inl rfl, [], by kernel_rfl⟩⟩
  · clear hx13
    rcases x13 with r14
    rintro e st' ⟨rfl, hk⟩
    obtain rfl := Option.some.inj h
    exact hk

noncomputable def m_num_List_L1 (a_b : List (Int)) (x1 : (Int × Int × Int)) : (Int × List (Int) × Bool × Int) → Option (LR (Int × List (Int) × Bool × Int) ((Int × List (Int) × Bool) ⊕ (List (Int) × Int × Int))) :=
  fun ((i2, l3, b4, i5) : (Int × List (Int) × Bool × Int)) => (bif (decide ((i5 : Int) < (w64 x1.1))) then (chk (0 ≤ i2 ∧ i2 ≤ (a_b.length : Int)) ((m_num_Get (a_b.drop (i2).toNat)).bind fun x10 => (bif ((x10.2.2 : Int) != (0 : Int)) then (some (.done (.inr (([] : List Int), (0 : Int), x10.2.2)))) else (chk (l3.length + ([(w64 x10.1)] : List (Int)).length ≤ room) (some (.next ((w64 (i2 + x10.2.1)), (l3 ++ ([(w64 x10.1)] : List (Int))), (bif b4 then true else (decide (((2147483647 : Int) : Int) < x10.1))), (w64 (i5 + (1 : Int)))))))))) else (some (.done (.inl (i2, l3, b4)))))
noncomputable def m_num_List (a_b : List (Int)) (a_most : Int) : Option (List (Int) × Int × Int) :=
  ((m_num_Get a_b).bind fun x1 => (bif ((x1.2.2 : Int) != (0 : Int)) then (some (([] : List Int), (0 : Int), x1.2.2)) else (bif (bif (decide ((a_most : Int) < (0 : Int))) then true else (decide (((wu64 a_most) : Int) < x1.1))) then (some (([] : List Int), (0 : Int), (4 : Int))) else ((loopO (S := (Int × List (Int) × Bool × Int)) (X := ((Int × List (Int) × Bool) ⊕ (List (Int) × Int × Int))) (m_num_List_L1 a_b x1) (x1.2.1, ([] : List Int), false, (0 : Int))).bind (fun x12 => (match x12 with | (.inl (i6, l7, b8)) => (bif b8 then (some (([] : List Int), (0 : Int), (4 : Int))) else (some (l7, i6, (0 : Int)))) | (.inr r14) => (some r14)))))))
theorem ok_num_List (a_b : List (Int)) (a_most : Int) (r : (List (Int) × Int × Int)) (h : m_num_List a_b a_most = some r) : Spec Try.prog 15 [(AV.list 1 eU8 (0 : Int) a_b .none), (.int .i64 a_most)] [] (.tuple [(AV.list 1 eI64 (0 : Int) r.1 (.own 20000)), (.int .i64 r.2.1), (.int .i64 r.2.2)]) [(20000, .tok 1 3 r.1.length)] := by
  refine spec_of_awp (fn := Try.f15) Try.func15 rfl rfl (by kernel_rfl) (fun Γ hn hΓ => ?_)
  have hn : Γ.n = 64 := hn
  unfold m_num_List at h
  refine awp_seq ?_
  refine awp_region (rs := []) (cs := [(4, (AV.list 1 eI64 (0 : Int) ([] : List Int) .exact))]) (live := [0, 1]) (names := []) (st' := (⟨[(0, (AV.list 1 eU8 (0 : Int) a_b .none)), (1, (.int .i64 a_most))], []⟩ : St)) (obs := [(AVle (.slice 0 0 (fun _ => []) .exact) (AV.list 1 eI64 (0 : Int) ([] : List Int) .exact))]) hn mix (no_hand hΓ) (by kernel_rfl) ⟨av_nil, trivial⟩ ?_
  refine then_normal ?_
  refine awp_seq ?_
  obtain ⟨x1, hx1, h⟩ := bind_some h
  refine awp_region (rs := [⟨[], [], (.tuple [(.int .u64 x1.1), (.int .i64 x1.2.1), (.int .i64 x1.2.2)]), []⟩]) (cs := []) (live := [0, 1, 7, 8, 9]) (names := []) (st' := (⟨[(0, (AV.list 1 eU8 (0 : Int) a_b .none)), (1, (.int .i64 a_most)), (7, (.int .u64 x1.1)), (8, (.int .i64 x1.2.1)), (9, (.int .i64 x1.2.2))], []⟩ : St)) (obs := [(Spec Try.prog 10 [(AV.list 1 eU8 (0 : Int) a_b .none)] [] (.tuple [(.int .u64 x1.1), (.int .i64 x1.2.1), (.int .i64 x1.2.2)]) [])]) hn mix (no_hand hΓ) (by kernel_rfl) ⟨(ok_num_Get a_b x1 hx1), trivial⟩ ?_
  refine then_normal ?_
  refine awp_seq ?_
  refine awp_seq ?_
  refine awp_region (rs := []) (cs := []) (live := [0, 1, 7, 8, 9, 22]) (names := []) (st' := (⟨[(0, (AV.list 1 eU8 (0 : Int) a_b .none)), (1, (.int .i64 a_most)), (7, (.int .u64 x1.1)), (8, (.int .i64 x1.2.1)), (9, (.int .i64 x1.2.2)), (22, (.bool ((x1.2.2 : Int) != (0 : Int))))], []⟩ : St)) (obs := []) hn mix (no_hand hΓ) (by kernel_rfl) trivial ?_
  refine then_normal ?_
  refine awp_cond ((x1.2.2 : Int) != (0 : Int)) (by kernel_rfl) (fun hb => ?_) (fun hb => ?_)
  · replace h := cond_t hb h
    clear hb
    refine awp_seq ?_
    refine awp_region (rs := []) (cs := [(4, (AV.list 1 eI64 (0 : Int) ([] : List Int) .exact))]) (live := [4, 5, 6]) (names := []) (st' := (⟨[(4, (AV.list 1 eI64 (0 : Int) ([] : List Int) .exact)), (5, (.int .i64 (0 : Int))), (6, (.int .i64 x1.2.2))], []⟩ : St)) (obs := [(AVle (.slice 0 0 (fun _ => []) .exact) (AV.list 1 eI64 (0 : Int) ([] : List Int) .exact))]) hn mix (no_hand hΓ) (by kernel_rfl) ⟨av_nil, trivial⟩ ?_
    refine then_normal ?_
    refine awp_le (st' := (⟨[(4, (AV.list 1 eI64 (0 : Int) ([] : List Int) (.own 6004))), (5, (.int .i64 (0 : Int))), (6, (.int .i64 x1.2.2))], [(6004, .tok 1 3 (([] : List Int).length))]⟩ : St)) (Le.trans (le_restrict_eq (st' := (⟨[(4, (AV.list 1 eI64 (0 : Int) ([] : List Int) .exact)), (5, (.int .i64 (0 : Int))), (6, (.int .i64 x1.2.2))], []⟩ : St)) [4, 5, 6] [] (by kernel_rfl) (no_hand hΓ)) (Le.trans (le_tag (t := 4) (nm := 6004) (sz' := 1) (fun i => eI64 (([] : List Int).getD i (0 : Int))) 3 rfl rfl (.inl ⟨rfl, rfl⟩)) (le_eq (st' := (⟨[(4, (AV.list 1 eI64 (0 : Int) ([] : List Int) (.own 6004))), (5, (.int .i64 (0 : Int))), (6, (.int .i64 x1.2.2))], [(6004, .tok 1 3 (([] : List Int).length))]⟩ : St)) (by kernel_rfl)))) ?_
    refine awp_ret ?_
    refine then_ret ?_
    obtain rfl := Option.some.inj h
    exact ⟨.inl rfl, [(6004, 20000)], by kernel_rfl⟩
  · replace h := cond_f hb h
    clear hb
    refine awp_skip ?_
    refine then_normal ?_
    refine awp_seq ?_
    refine awp_seq ?_
    refine awp_region (rs := []) (cs := []) (live := [0, 7, 8, 31]) (names := []) (st' := (⟨[(0, (AV.list 1 eU8 (0 : Int) a_b .none)), (7, (.int .u64 x1.1)), (8, (.int .i64 x1.2.1)), (31, (.bool (bif (decide ((a_most : Int) < (0 : Int))) then true else (decide (((wu64 a_most) : Int) < x1.1)))))], []⟩ : St)) (obs := [(((decide ((a_most : Int) < (0 : Int))) == false) = true → ((decide ((a_most : Int) < (0 : Int))) == false) = true), (((decide ((a_most : Int) < (0 : Int))) == false) = true → ((decide ((a_most : Int) < (0 : Int))) == false) = true), (((decide ((a_most : Int) < (0 : Int))) == false) = true → ((decide ((a_most : Int) < (0 : Int))) == false) = true), ((decide ((a_most : Int) < (0 : Int))) = false → ((decide ((a_most : Int) < (0 : Int))) == false) = true)]) hn mix (no_hand hΓ) (by kernel_rfl) ⟨(fun hg => hg), (fun hg => hg), (fun hg => hg), (fun hp => by rw [hp]; rfl), trivial⟩ ?_
    refine then_normal ?_
    refine awp_cond (bif (decide ((a_most : Int) < (0 : Int))) then true else (decide (((wu64 a_most) : Int) < x1.1))) (by kernel_rfl) (fun hb => ?_) (fun hb => ?_)
    · replace h := cond_t hb h
      clear hb
      refine awp_seq ?_
      refine awp_region (rs := []) (cs := [(4, (AV.list 1 eI64 (0 : Int) ([] : List Int) .exact))]) (live := [4, 5, 6]) (names := []) (st' := (⟨[(4, (AV.list 1 eI64 (0 : Int) ([] : List Int) .exact)), (5, (.int .i64 (0 : Int))), (6, (.int .i64 (4 : Int)))], []⟩ : St)) (obs := [(AVle (.slice 0 0 (fun _ => []) .exact) (AV.list 1 eI64 (0 : Int) ([] : List Int) .exact))]) hn mix (no_hand hΓ) (by kernel_rfl) ⟨av_nil, trivial⟩ ?_
      refine then_normal ?_
      refine awp_le (st' := (⟨[(4, (AV.list 1 eI64 (0 : Int) ([] : List Int) (.own 6004))), (5, (.int .i64 (0 : Int))), (6, (.int .i64 (4 : Int)))], [(6004, .tok 1 3 (([] : List Int).length))]⟩ : St)) (Le.trans (le_restrict_eq (st' := (⟨[(4, (AV.list 1 eI64 (0 : Int) ([] : List Int) .exact)), (5, (.int .i64 (0 : Int))), (6, (.int .i64 (4 : Int)))], []⟩ : St)) [4, 5, 6] [] (by kernel_rfl) (no_hand hΓ)) (Le.trans (le_tag (t := 4) (nm := 6004) (sz' := 1) (fun i => eI64 (([] : List Int).getD i (0 : Int))) 3 rfl rfl (.inl ⟨rfl, rfl⟩)) (le_eq (st' := (⟨[(4, (AV.list 1 eI64 (0 : Int) ([] : List Int) (.own 6004))), (5, (.int .i64 (0 : Int))), (6, (.int .i64 (4 : Int)))], [(6004, .tok 1 3 (([] : List Int).length))]⟩ : St)) (by kernel_rfl)))) ?_
      refine awp_ret ?_
      refine then_ret ?_
      obtain rfl := Option.some.inj h
      exact ⟨.inl rfl, [(6004, 20000)], by kernel_rfl⟩
    · replace h := cond_f hb h
      clear hb
      refine awp_skip ?_
      refine then_normal ?_
      refine awp_seq ?_
      refine awp_region (rs := []) (cs := [(10, (AV.list 1 eI64 (0 : Int) ([] : List Int) .exact))]) (live := [0, 7, 8, 10]) (names := []) (st' := (⟨[(0, (AV.list 1 eU8 (0 : Int) a_b .none)), (7, (.int .u64 x1.1)), (8, (.int .i64 x1.2.1)), (10, (AV.list 1 eI64 (0 : Int) ([] : List Int) .exact))], []⟩ : St)) (obs := [(AVle (.slice 0 0 (fun _ => []) .exact) (AV.list 1 eI64 (0 : Int) ([] : List Int) .exact))]) hn mix (no_hand hΓ) (by kernel_rfl) ⟨av_nil, trivial⟩ ?_
      refine then_normal ?_
      refine awp_seq ?_
      refine awp_region (rs := []) (cs := []) (live := [0, 7, 8, 10, 11]) (names := []) (st' := (⟨[(0, (AV.list 1 eU8 (0 : Int) a_b .none)), (7, (.int .u64 x1.1)), (8, (.int .i64 x1.2.1)), (10, (AV.list 1 eI64 (0 : Int) ([] : List Int) .exact)), (11, (.bool false))], []⟩ : St)) (obs := []) hn mix (no_hand hΓ) (by kernel_rfl) trivial ?_
      refine then_normal ?_
      refine awp_seq ?_
      refine awp_seq ?_
      refine awp_region (rs := []) (cs := []) (live := [0, 8, 10, 11, 33, 34]) (names := []) (st' := (⟨[(0, (AV.list 1 eU8 (0 : Int) a_b .none)), (8, (.int .i64 x1.2.1)), (10, (AV.list 1 eI64 (0 : Int) ([] : List Int) .exact)), (11, (.bool false)), (33, (.int .i64 (w64 x1.1))), (34, (.int .i64 (0 : Int)))], []⟩ : St)) (obs := []) hn mix (no_hand hΓ) (by kernel_rfl) trivial ?_
      refine then_normal ?_
      refine awp_block ?_
      refine awp_le (st' := (fun ((i2, l3, b4, i5) : (Int × List (Int) × Bool × Int)) => (⟨[(0, (AV.list 1 eU8 (0 : Int) a_b .none)), (8, (.int .i64 i2)), (10, (AV.list 1 eI64 (0 : Int) l3 (.own 5010))), (11, (.bool b4)), (33, (.int .i64 (w64 x1.1))), (34, (.int .i64 i5))], [(5010, .tok 1 3 l3.length)]⟩ : St)) (x1.2.1, ([] : List Int), false, (0 : Int))) (Le.trans (le_restrict_eq (st' := (⟨[(0, (AV.list 1 eU8 (0 : Int) a_b .none)), (8, (.int .i64 x1.2.1)), (10, (AV.list 1 eI64 (0 : Int) ([] : List Int) .exact)), (11, (.bool false)), (33, (.int .i64 (w64 x1.1))), (34, (.int .i64 (0 : Int)))], []⟩ : St)) [0, 8, 10, 11, 33, 34] [] (by kernel_rfl) (no_hand hΓ)) (Le.trans (le_tag (t := 10) (nm := 5010) (sz' := 1) (fun i => eI64 (([] : List Int).getD i (0 : Int))) 3 rfl rfl (.inl ⟨rfl, rfl⟩)) (le_eq (st' := (⟨[(0, (AV.list 1 eU8 (0 : Int) a_b .none)), (8, (.int .i64 x1.2.1)), (10, (AV.list 1 eI64 (0 : Int) ([] : List Int) (.own 5010))), (11, (.bool false)), (33, (.int .i64 (w64 x1.1))), (34, (.int .i64 (0 : Int)))], [(5010, .tok 1 3 (([] : List Int).length))]⟩ : St)) (by kernel_rfl)))) ?_
      obtain ⟨x12, hx12, h⟩ := bind_some h
      refine awp_loop (fun ((i2, l3, b4, i5) : (Int × List (Int) × Bool × Int)) => (⟨[(0, (AV.list 1 eU8 (0 : Int) a_b .none)), (8, (.int .i64 i2)), (10, (AV.list 1 eI64 (0 : Int) l3 (.own 5010))), (11, (.bool b4)), (33, (.int .i64 (w64 x1.1))), (34, (.int .i64 i5))], [(5010, .tok 1 3 l3.length)]⟩ : St)) _ (fun (x_ : ((Int × List (Int) × Bool) ⊕ (List (Int) × Int × Int))) (e : Exit) (st : St) => match x_ with | (.inl (i6, l7, b8)) => e = (.exit 0) ∧ Le Γ st (⟨[(8, (.int .i64 i6)), (10, (AV.list 1 eI64 (0 : Int) l7 (.own 5010))), (11, (.bool b8))], [(5010, .tok 1 3 l7.length)]⟩ : St) | (.inr r_) => e = .ret ∧ retK Try.prog Try.f15.results.toList [] (.tuple [(AV.list 1 eI64 (0 : Int) r_.1 (.own 20000)), (.int .i64 r_.2.1), (.int .i64 r_.2.2)]) [(20000, .tok 1 3 r_.1.length)] e st) ?_ hx12 ?_
      · rintro ⟨i2, l3, b4, i5⟩ y h
        unfold m_num_List_L1 at h
        refine awp_seq ?_
        refine awp_region (rs := []) (cs := []) (live := [0, 8, 10, 11, 33, 34, 35]) (names := [5010]) (st' := (⟨[(0, (AV.list 1 eU8 (0 : Int) a_b .none)), (8, (.int .i64 i2)), (10, (AV.list 1 eI64 (0 : Int) l3 (.own 5010))), (11, (.bool b4)), (33, (.int .i64 (w64 x1.1))), (34, (.int .i64 i5)), (35, (.bool (decide ((i5 : Int) < (w64 x1.1)))))], [(5010, .tok 1 3 l3.length)]⟩ : St)) (obs := []) hn mix (no_hand hΓ) (by kernel_rfl) trivial ?_
        refine then_normal ?_
        refine awp_seq ?_
        refine awp_cond (decide ((i5 : Int) < (w64 x1.1))) (by kernel_rfl) (fun hb => ?_) (fun hb => ?_)
        · replace h := cond_t hb h
          clear hb
          refine awp_skip ?_
          refine then_normal ?_
          refine awp_seq ?_
          refine awp_block ?_
          refine awp_seq ?_
          obtain ⟨hc9, h⟩ := chk_some h
          obtain ⟨x10, hx10, h⟩ := bind_some h
          refine awp_region (rs := [⟨[], [], (.tuple [(.int .u64 x10.1), (.int .i64 x10.2.1), (.int .i64 x10.2.2)]), []⟩]) (cs := [(39, (AV.list 1 eU8 (0 : Int) (a_b.drop (i2).toNat) .none))]) (live := [0, 8, 10, 11, 12, 13, 14, 33, 34]) (names := [5010]) (st' := (⟨[(0, (AV.list 1 eU8 (0 : Int) a_b .none)), (8, (.int .i64 i2)), (10, (AV.list 1 eI64 (0 : Int) l3 (.own 5010))), (11, (.bool b4)), (12, (.int .u64 x10.1)), (13, (.int .i64 x10.2.1)), (14, (.int .i64 x10.2.2)), (33, (.int .i64 (w64 x1.1))), (34, (.int .i64 i5))], [(5010, .tok 1 3 l3.length)]⟩ : St)) (obs := [(0 ≤ i2 ∧ i2 ≤ (a_b.length : Int)), (AVle (.slice 1 (a_b.length - (i2).toNat) (fun i => eU8 (a_b.getD ((i2).toNat + i) (0 : Int))) .none) (AV.list 1 eU8 (0 : Int) (a_b.drop (i2).toNat) .none)), (Spec Try.prog 10 [(AV.list 1 eU8 (0 : Int) (a_b.drop (i2).toNat) .none)] [] (.tuple [(.int .u64 x10.1), (.int .i64 x10.2.1), (.int .i64 x10.2.2)]) [])]) hn mix (no_hand hΓ) (by kernel_rfl) ⟨hc9, av_drop, (ok_num_Get (a_b.drop (i2).toNat) x10 hx10), trivial⟩ ?_
          refine then_normal ?_
          refine awp_seq ?_
          refine awp_seq ?_
          refine awp_region (rs := []) (cs := []) (live := [0, 8, 10, 11, 12, 13, 14, 33, 34, 45]) (names := [5010]) (st' := (⟨[(0, (AV.list 1 eU8 (0 : Int) a_b .none)), (8, (.int .i64 i2)), (10, (AV.list 1 eI64 (0 : Int) l3 (.own 5010))), (11, (.bool b4)), (12, (.int .u64 x10.1)), (13, (.int .i64 x10.2.1)), (14, (.int .i64 x10.2.2)), (33, (.int .i64 (w64 x1.1))), (34, (.int .i64 i5)), (45, (.bool ((x10.2.2 : Int) != (0 : Int))))], [(5010, .tok 1 3 l3.length)]⟩ : St)) (obs := []) hn mix (no_hand hΓ) (by kernel_rfl) trivial ?_
          refine then_normal ?_
          refine awp_cond ((x10.2.2 : Int) != (0 : Int)) (by kernel_rfl) (fun hb => ?_) (fun hb => ?_)
          · replace h := cond_t hb h
            clear hb
            refine awp_seq ?_
            refine awp_region (rs := []) (cs := [(4, (AV.list 1 eI64 (0 : Int) ([] : List Int) .exact))]) (live := [4, 5, 6]) (names := []) (st' := (⟨[(4, (AV.list 1 eI64 (0 : Int) ([] : List Int) .exact)), (5, (.int .i64 (0 : Int))), (6, (.int .i64 x10.2.2))], []⟩ : St)) (obs := [(AVle (.slice 0 0 (fun _ => []) .exact) (AV.list 1 eI64 (0 : Int) ([] : List Int) .exact))]) hn mix (no_hand hΓ) (by kernel_rfl) ⟨av_nil, trivial⟩ ?_
            refine then_normal ?_
            refine awp_le (st' := (⟨[(4, (AV.list 1 eI64 (0 : Int) ([] : List Int) (.own 6004))), (5, (.int .i64 (0 : Int))), (6, (.int .i64 x10.2.2))], [(6004, .tok 1 3 (([] : List Int).length))]⟩ : St)) (Le.trans (le_restrict_eq (st' := (⟨[(4, (AV.list 1 eI64 (0 : Int) ([] : List Int) .exact)), (5, (.int .i64 (0 : Int))), (6, (.int .i64 x10.2.2))], []⟩ : St)) [4, 5, 6] [] (by kernel_rfl) (no_hand hΓ)) (Le.trans (le_tag (t := 4) (nm := 6004) (sz' := 1) (fun i => eI64 (([] : List Int).getD i (0 : Int))) 3 rfl rfl (.inl ⟨rfl, rfl⟩)) (le_eq (st' := (⟨[(4, (AV.list 1 eI64 (0 : Int) ([] : List Int) (.own 6004))), (5, (.int .i64 (0 : Int))), (6, (.int .i64 x10.2.2))], [(6004, .tok 1 3 (([] : List Int).length))]⟩ : St)) (by kernel_rfl)))) ?_
            refine awp_ret ?_
            refine then_ret ?_
            refine block_ret ?_
            refine then_ret ?_
            obtain rfl := Option.some.inj h
            exact ⟨(by intro hh; cases hh), rfl, ⟨.inl rfl, [(6004, 20000)], by kernel_rfl⟩⟩
          · replace h := cond_f hb h
            clear hb
            refine awp_skip ?_
            refine then_normal ?_
            refine awp_seq ?_
            refine awp_region (rs := []) (cs := []) (live := [0, 8, 10, 11, 12, 13, 33, 34]) (names := [5010]) (st' := (⟨[(0, (AV.list 1 eU8 (0 : Int) a_b .none)), (8, (.int .i64 i2)), (10, (AV.list 1 eI64 (0 : Int) l3 (.own 5010))), (11, (.bool (bif b4 then true else (decide (((2147483647 : Int) : Int) < x10.1))))), (12, (.int .u64 x10.1)), (13, (.int .i64 x10.2.1)), (33, (.int .i64 (w64 x1.1))), (34, (.int .i64 i5))], [(5010, .tok 1 3 l3.length)]⟩ : St)) (obs := [((b4 == false) = true → (b4 == false) = true), (b4 = false → (b4 == false) = true)]) hn mix (no_hand hΓ) (by kernel_rfl) ⟨(fun hg => hg), (fun hp => by rw [hp]; rfl), trivial⟩ ?_
            refine then_normal ?_
            refine awp_seq ?_
            obtain ⟨hc11, h⟩ := chk_some h
            refine awp_region (rs := []) (cs := [(55, (AV.list 1 eI64 (0 : Int) ([(w64 x10.1)] : List (Int)) .exact)), (56, (AV.list 1 eI64 (0 : Int) (l3 ++ ([(w64 x10.1)] : List (Int))) (.own 5010)))]) (live := [0, 8, 10, 11, 13, 33, 34]) (names := [5010]) (st' := (⟨[(0, (AV.list 1 eU8 (0 : Int) a_b .none)), (8, (.int .i64 i2)), (10, (AV.list 1 eI64 (0 : Int) (l3 ++ ([(w64 x10.1)] : List (Int))) (.own 5010))), (11, (.bool (bif b4 then true else (decide (((2147483647 : Int) : Int) < x10.1))))), (13, (.int .i64 x10.2.1)), (33, (.int .i64 (w64 x1.1))), (34, (.int .i64 i5))], [(5010, .tok 1 3 ((l3 ++ ([(w64 x10.1)] : List (Int))).length))]⟩ : St)) (obs := [(AVle (.slice 1 1 (fun i => ([[(.int .i64 (w64 x10.1))]] : List (List AV)).getD i []) .exact) (AV.list 1 eI64 (0 : Int) ([(w64 x10.1)] : List (Int)) .exact)), (l3.length = l3.length), (l3.length + ([(w64 x10.1)] : List (Int)).length ≤ room), (AVle (.slice 1 (l3.length + ([(w64 x10.1)] : List (Int)).length) (appF l3.length (fun i => eI64 (l3.getD i (0 : Int))) (fun i => eI64 (([(w64 x10.1)] : List (Int)).getD i (0 : Int)))) (.own 5010)) (AV.list 1 eI64 (0 : Int) (l3 ++ ([(w64 x10.1)] : List (Int))) (.own 5010))), (l3.length + ([(w64 x10.1)] : List (Int)).length = (l3 ++ ([(w64 x10.1)] : List (Int))).length)]) hn mix (no_hand hΓ) (by kernel_rfl) ⟨(av_lit rfl (fun i hi => map_get (e := eI64) (d := (0 : Int)) ([(w64 x10.1)] : List (Int)) i hi)), rfl, hc11, av_app, (len_app _ _), trivial⟩ ?_
            refine then_normal ?_
            refine awp_region (rs := []) (cs := []) (live := [0, 8, 10, 11, 33, 34]) (names := [5010]) (st' := (⟨[(0, (AV.list 1 eU8 (0 : Int) a_b .none)), (8, (.int .i64 (w64 (i2 + x10.2.1)))), (10, (AV.list 1 eI64 (0 : Int) (l3 ++ ([(w64 x10.1)] : List (Int))) (.own 5010))), (11, (.bool (bif b4 then true else (decide (((2147483647 : Int) : Int) < x10.1))))), (33, (.int .i64 (w64 x1.1))), (34, (.int .i64 i5))], [(5010, .tok 1 3 ((l3 ++ ([(w64 x10.1)] : List (Int))).length))]⟩ : St)) (obs := []) hn mix (no_hand hΓ) (by kernel_rfl) trivial ?_
            refine block_normal ?_
            refine then_normal ?_
            refine awp_region (rs := []) (cs := []) (live := [0, 8, 10, 11, 33, 34]) (names := [5010]) (st' := (⟨[(0, (AV.list 1 eU8 (0 : Int) a_b .none)), (8, (.int .i64 (w64 (i2 + x10.2.1)))), (10, (AV.list 1 eI64 (0 : Int) (l3 ++ ([(w64 x10.1)] : List (Int))) (.own 5010))), (11, (.bool (bif b4 then true else (decide (((2147483647 : Int) : Int) < x10.1))))), (33, (.int .i64 (w64 x1.1))), (34, (.int .i64 (w64 (i5 + (1 : Int)))))], [(5010, .tok 1 3 ((l3 ++ ([(w64 x10.1)] : List (Int))).length))]⟩ : St)) (obs := []) hn mix (no_hand hΓ) (by kernel_rfl) trivial ?_
            obtain rfl := Option.some.inj h
            exact ⟨rfl, Le.refl _ _⟩
        · replace h := cond_f hb h
          clear hb
          refine awp_exit ?_
          refine then_exit ?_
          obtain rfl := Option.some.inj h
          exact ⟨(by intro hh; cases hh), rfl, le_restrict_eq [8, 10, 11] [5010] (by kernel_rfl) (no_hand hΓ)⟩
      · clear hx12
        rcases x12 with ⟨i6, l7, b8⟩ | r14
        · rintro e st' ⟨rfl, hl13⟩
          refine block_here ?_
          refine then_normal ?_
          refine awp_le hl13 ?_
          refine awp_seq ?_
          refine awp_seq ?_
          refine awp_region (rs := []) (cs := []) (live := [8, 10, 61]) (names := [5010]) (st' := (⟨[(8, (.int .i64 i6)), (10, (AV.list 1 eI64 (0 : Int) l7 (.own 5010))), (61, (.bool b8))], [(5010, .tok 1 3 l7.length)]⟩ : St)) (obs := []) hn mix (no_hand hΓ) (by kernel_rfl) trivial ?_
          refine then_normal ?_
          refine awp_cond b8 (by kernel_rfl) (fun hb => ?_) (fun hb => ?_)
          · replace h := cond_t hb h
            clear hb
            refine awp_seq ?_
            refine awp_region (rs := []) (cs := [(4, (AV.list 1 eI64 (0 : Int) ([] : List Int) .exact))]) (live := [4, 5, 6]) (names := []) (st' := (⟨[(4, (AV.list 1 eI64 (0 : Int) ([] : List Int) .exact)), (5, (.int .i64 (0 : Int))), (6, (.int .i64 (4 : Int)))], []⟩ : St)) (obs := [(AVle (.slice 0 0 (fun _ => []) .exact) (AV.list 1 eI64 (0 : Int) ([] : List Int) .exact))]) hn mix (no_hand hΓ) (by kernel_rfl) ⟨av_nil, trivial⟩ ?_
            refine then_normal ?_
            refine awp_le (st' := (⟨[(4, (AV.list 1 eI64 (0 : Int) ([] : List Int) (.own 6004))), (5, (.int .i64 (0 : Int))), (6, (.int .i64 (4 : Int)))], [(6004, .tok 1 3 (([] : List Int).length))]⟩ : St)) (Le.trans (le_restrict_eq (st' := (⟨[(4, (AV.list 1 eI64 (0 : Int) ([] : List Int) .exact)), (5, (.int .i64 (0 : Int))), (6, (.int .i64 (4 : Int)))], []⟩ : St)) [4, 5, 6] [] (by kernel_rfl) (no_hand hΓ)) (Le.trans (le_tag (t := 4) (nm := 6004) (sz' := 1) (fun i => eI64 (([] : List Int).getD i (0 : Int))) 3 rfl rfl (.inl ⟨rfl, rfl⟩)) (le_eq (st' := (⟨[(4, (AV.list 1 eI64 (0 : Int) ([] : List Int) (.own 6004))), (5, (.int .i64 (0 : Int))), (6, (.int .i64 (4 : Int)))], [(6004, .tok 1 3 (([] : List Int).length))]⟩ : St)) (by kernel_rfl)))) ?_
            refine awp_ret ?_
            refine then_ret ?_
            obtain rfl := Option.some.inj h
            exact ⟨.inl rfl, [(6004, 20000)], by kernel_rfl⟩
          · replace h := cond_f hb h
            clear hb
            refine awp_skip ?_
            refine then_normal ?_
            refine awp_seq ?_
            refine awp_region (rs := []) (cs := []) (live := [4, 5, 6]) (names := [5010]) (st' := (⟨[(4, (AV.list 1 eI64 (0 : Int) l7 (.own 5010))), (5, (.int .i64 i6)), (6, (.int .i64 (0 : Int)))], [(5010, .tok 1 3 l7.length)]⟩ : St)) (obs := []) hn mix (no_hand hΓ) (by kernel_rfl) trivial ?_
            refine then_normal ?_
            refine awp_ret ?_
            obtain rfl := Option.some.inj h
            exact ⟨.inl rfl, [(5010, 20000)], by kernel_rfl⟩
        · rintro e st' ⟨rfl, hk⟩
          refine block_ret ?_
          refine then_ret ?_
          obtain rfl := Option.some.inj h
          exact hk

noncomputable def m_locksteplaw02_awake  : Option Bool :=
  ((m_num_Put (300 : Int)).bind fun x1 => ((m_num_Get ([(172 : Int), (2 : Int), (9 : Int)] : List (Int))).bind fun x2 => ((m_num_Get ([(128 : Int), (0 : Int)] : List (Int))).bind fun x3 => ((m_num_List ([(2 : Int), (5 : Int), (6 : Int), (7 : Int)] : List (Int)) (9 : Int)).bind fun x4 => (chk (((((x1.length : Int) : Int) == (2 : Int)) == true) = true → (InB (0 : Int) x1.length)) (chk (((bif (((x1.length : Int) : Int) == (2 : Int)) then (((x1.getD ((0 : Int)).toNat (0 : Int)) : Int) == (172 : Int)) else false) == true) = true → (InB (1 : Int) x1.length)) (chk (((bif (bif (bif (bif (bif (bif (bif (((x1.length : Int) : Int) == (2 : Int)) then (((x1.getD ((0 : Int)).toNat (0 : Int)) : Int) == (172 : Int)) else false) then (((x1.getD ((1 : Int)).toNat (0 : Int)) : Int) == (2 : Int)) else false) then ((x2.1 : Int) == (300 : Int)) else false) then ((x2.2.1 : Int) == (2 : Int)) else false) then ((x2.2.2 : Int) == (0 : Int)) else false) then ((x3.2.2 : Int) == (3 : Int)) else false) then (((x4.1.length : Int) : Int) == (2 : Int)) else false) == true) = true → (InB (1 : Int) x4.1.length)) (some (bif (bif (bif (bif (bif (bif (bif (bif (bif (bif (((x1.length : Int) : Int) == (2 : Int)) then (((x1.getD ((0 : Int)).toNat (0 : Int)) : Int) == (172 : Int)) else false) then (((x1.getD ((1 : Int)).toNat (0 : Int)) : Int) == (2 : Int)) else false) then ((x2.1 : Int) == (300 : Int)) else false) then ((x2.2.1 : Int) == (2 : Int)) else false) then ((x2.2.2 : Int) == (0 : Int)) else false) then ((x3.2.2 : Int) == (3 : Int)) else false) then (((x4.1.length : Int) : Int) == (2 : Int)) else false) then (((x4.1.getD ((1 : Int)).toNat (0 : Int)) : Int) == (6 : Int)) else false) then ((x4.2.1 : Int) == (3 : Int)) else false) then ((x4.2.2 : Int) == (0 : Int)) else false)))))))))
theorem ok_locksteplaw02_awake  (r : Bool) (h : m_locksteplaw02_awake = some r) : Spec Try.prog 8 [] [] (.bool r) [] := by
  refine spec_of_awp (fn := Try.f8) Try.func8 rfl rfl (by kernel_rfl) (fun Γ hn hΓ => ?_)
  have hn : Γ.n = 80 := hn
  unfold m_locksteplaw02_awake at h
  refine awp_seq ?_
  refine awp_region (rs := []) (cs := []) (live := []) (names := []) (st' := (⟨[], []⟩ : St)) (obs := []) hn mix (no_hand hΓ) (by kernel_rfl) trivial ?_
  refine then_normal ?_
  refine awp_seq ?_
  obtain ⟨x1, hx1, h⟩ := bind_some h
  refine awp_region (rs := [⟨[], [(20000, 11)], (AV.list 1 eU8 (0 : Int) x1 (.own 20000)), [(20000, .tok 1 5 x1.length)]⟩]) (cs := []) (live := [1]) (names := [11]) (st' := (⟨[(1, (AV.list 1 eU8 (0 : Int) x1 (.own 11)))], [(11, .tok 1 5 x1.length)]⟩ : St)) (obs := [(Spec Try.prog 9 [(.int .u64 (300 : Int))] [] (AV.list 1 eU8 (0 : Int) x1 (.own 20000)) [(20000, .tok 1 5 x1.length)])]) hn mix (no_hand hΓ) (by kernel_rfl) ⟨(ok_num_Put (300 : Int) x1 hx1), trivial⟩ ?_
  refine then_normal ?_
  refine awp_seq ?_
  obtain ⟨x2, hx2, h⟩ := bind_some h
  refine awp_region (rs := [⟨[], [], (.tuple [(.int .u64 x2.1), (.int .i64 x2.2.1), (.int .i64 x2.2.2)]), []⟩]) (cs := [(13, (AV.list 1 eU8 (0 : Int) ([(172 : Int), (2 : Int), (9 : Int)] : List (Int)) .exact))]) (live := [1, 2, 3, 4]) (names := [11]) (st' := (⟨[(1, (AV.list 1 eU8 (0 : Int) x1 (.own 11))), (2, (.int .u64 x2.1)), (3, (.int .i64 x2.2.1)), (4, (.int .i64 x2.2.2))], [(11, .tok 1 5 x1.length)]⟩ : St)) (obs := [(AVle (.slice 1 3 (fun i => ([[(.int .u8 (172 : Int))], [(.int .u8 (2 : Int))], [(.int .u8 (9 : Int))]] : List (List AV)).getD i []) .exact) (AV.list 1 eU8 (0 : Int) ([(172 : Int), (2 : Int), (9 : Int)] : List (Int)) .exact)), (Spec Try.prog 10 [(AV.list 1 eU8 (0 : Int) ([(172 : Int), (2 : Int), (9 : Int)] : List (Int)) .none)] [] (.tuple [(.int .u64 x2.1), (.int .i64 x2.2.1), (.int .i64 x2.2.2)]) [])]) hn mix (no_hand hΓ) (by kernel_rfl) ⟨(av_lit rfl (fun i hi => map_get (e := eU8) (d := (0 : Int)) ([(172 : Int), (2 : Int), (9 : Int)] : List (Int)) i hi)), (ok_num_Get ([(172 : Int), (2 : Int), (9 : Int)] : List (Int)) x2 hx2), trivial⟩ ?_
  refine then_normal ?_
  refine awp_seq ?_
  obtain ⟨x3, hx3, h⟩ := bind_some h
  refine awp_region (rs := [⟨[], [], (.tuple [(.int .u64 x3.1), (.int .i64 x3.2.1), (.int .i64 x3.2.2)]), []⟩]) (cs := [(19, (AV.list 1 eU8 (0 : Int) ([(128 : Int), (0 : Int)] : List (Int)) .exact))]) (live := [1, 2, 3, 4, 7]) (names := [11]) (st' := (⟨[(1, (AV.list 1 eU8 (0 : Int) x1 (.own 11))), (2, (.int .u64 x2.1)), (3, (.int .i64 x2.2.1)), (4, (.int .i64 x2.2.2)), (7, (.int .i64 x3.2.2))], [(11, .tok 1 5 x1.length)]⟩ : St)) (obs := [(AVle (.slice 1 2 (fun i => ([[(.int .u8 (128 : Int))], [(.int .u8 (0 : Int))]] : List (List AV)).getD i []) .exact) (AV.list 1 eU8 (0 : Int) ([(128 : Int), (0 : Int)] : List (Int)) .exact)), (Spec Try.prog 10 [(AV.list 1 eU8 (0 : Int) ([(128 : Int), (0 : Int)] : List (Int)) .none)] [] (.tuple [(.int .u64 x3.1), (.int .i64 x3.2.1), (.int .i64 x3.2.2)]) [])]) hn mix (no_hand hΓ) (by kernel_rfl) ⟨(av_lit rfl (fun i hi => map_get (e := eU8) (d := (0 : Int)) ([(128 : Int), (0 : Int)] : List (Int)) i hi)), (ok_num_Get ([(128 : Int), (0 : Int)] : List (Int)) x3 hx3), trivial⟩ ?_
  refine then_normal ?_
  refine awp_seq ?_
  obtain ⟨x4, hx4, h⟩ := bind_some h
  refine awp_region (rs := [⟨[], [(20000, 26)], (.tuple [(AV.list 1 eI64 (0 : Int) x4.1 (.own 20000)), (.int .i64 x4.2.1), (.int .i64 x4.2.2)]), [(20000, .tok 1 3 x4.1.length)]⟩]) (cs := [(25, (AV.list 1 eU8 (0 : Int) ([(2 : Int), (5 : Int), (6 : Int), (7 : Int)] : List (Int)) .exact))]) (live := [1, 2, 3, 4, 7, 8, 9, 10]) (names := [11, 26]) (st' := (⟨[(1, (AV.list 1 eU8 (0 : Int) x1 (.own 11))), (2, (.int .u64 x2.1)), (3, (.int .i64 x2.2.1)), (4, (.int .i64 x2.2.2)), (7, (.int .i64 x3.2.2)), (8, (AV.list 1 eI64 (0 : Int) x4.1 (.own 26))), (9, (.int .i64 x4.2.1)), (10, (.int .i64 x4.2.2))], [(11, .tok 1 5 x1.length), (26, .tok 1 3 x4.1.length)]⟩ : St)) (obs := [(AVle (.slice 1 4 (fun i => ([[(.int .u8 (2 : Int))], [(.int .u8 (5 : Int))], [(.int .u8 (6 : Int))], [(.int .u8 (7 : Int))]] : List (List AV)).getD i []) .exact) (AV.list 1 eU8 (0 : Int) ([(2 : Int), (5 : Int), (6 : Int), (7 : Int)] : List (Int)) .exact)), (Spec Try.prog 15 [(AV.list 1 eU8 (0 : Int) ([(2 : Int), (5 : Int), (6 : Int), (7 : Int)] : List (Int)) .none), (.int .i64 (9 : Int))] [] (.tuple [(AV.list 1 eI64 (0 : Int) x4.1 (.own 20000)), (.int .i64 x4.2.1), (.int .i64 x4.2.2)]) [(20000, .tok 1 3 x4.1.length)])]) hn mix (no_hand hΓ) (by kernel_rfl) ⟨(av_lit rfl (fun i hi => map_get (e := eU8) (d := (0 : Int)) ([(2 : Int), (5 : Int), (6 : Int), (7 : Int)] : List (Int)) i hi)), (ok_num_List ([(2 : Int), (5 : Int), (6 : Int), (7 : Int)] : List (Int)) (9 : Int) x4 hx4), trivial⟩ ?_
  refine then_normal ?_
  refine awp_seq ?_
  obtain ⟨hc5, h⟩ := chk_some h
  obtain ⟨hc6, h⟩ := chk_some h
  obtain ⟨hc7, h⟩ := chk_some h
  refine awp_region (rs := []) (cs := []) (live := [0]) (names := []) (st' := (⟨[(0, (.bool (bif (bif (bif (bif (bif (bif (bif (bif (bif (bif (((x1.length : Int) : Int) == (2 : Int)) then (((x1.getD ((0 : Int)).toNat (0 : Int)) : Int) == (172 : Int)) else false) then (((x1.getD ((1 : Int)).toNat (0 : Int)) : Int) == (2 : Int)) else false) then ((x2.1 : Int) == (300 : Int)) else false) then ((x2.2.1 : Int) == (2 : Int)) else false) then ((x2.2.2 : Int) == (0 : Int)) else false) then ((x3.2.2 : Int) == (3 : Int)) else false) then (((x4.1.length : Int) : Int) == (2 : Int)) else false) then (((x4.1.getD ((1 : Int)).toNat (0 : Int)) : Int) == (6 : Int)) else false) then ((x4.2.1 : Int) == (3 : Int)) else false) then ((x4.2.2 : Int) == (0 : Int)) else false)))], []⟩ : St)) (obs := [(((((x1.length : Int) : Int) == (2 : Int)) == true) = true → ((((x1.length : Int) : Int) == (2 : Int)) == true) = true), (((((x1.length : Int) : Int) == (2 : Int)) == true) = true → (InB (0 : Int) x1.length)), (((((x1.length : Int) : Int) == (2 : Int)) == true) = true → ((((x1.length : Int) : Int) == (2 : Int)) == true) = true), (((((x1.length : Int) : Int) == (2 : Int)) == true) = true → ((((x1.length : Int) : Int) == (2 : Int)) == true) = true), ((((x1.length : Int) : Int) == (2 : Int)) = true → ((((x1.length : Int) : Int) == (2 : Int)) == true) = true), (((bif (((x1.length : Int) : Int) == (2 : Int)) then (((x1.getD ((0 : Int)).toNat (0 : Int)) : Int) == (172 : Int)) else false) == true) = true → ((bif (((x1.length : Int) : Int) == (2 : Int)) then (((x1.getD ((0 : Int)).toNat (0 : Int)) : Int) == (172 : Int)) else false) == true) = true), (((bif (((x1.length : Int) : Int) == (2 : Int)) then (((x1.getD ((0 : Int)).toNat (0 : Int)) : Int) == (172 : Int)) else false) == true) = true → (InB (1 : Int) x1.length)), (((bif (((x1.length : Int) : Int) == (2 : Int)) then (((x1.getD ((0 : Int)).toNat (0 : Int)) : Int) == (172 : Int)) else false) == true) = true → ((bif (((x1.length : Int) : Int) == (2 : Int)) then (((x1.getD ((0 : Int)).toNat (0 : Int)) : Int) == (172 : Int)) else false) == true) = true), (((bif (((x1.length : Int) : Int) == (2 : Int)) then (((x1.getD ((0 : Int)).toNat (0 : Int)) : Int) == (172 : Int)) else false) == true) = true → ((bif (((x1.length : Int) : Int) == (2 : Int)) then (((x1.getD ((0 : Int)).toNat (0 : Int)) : Int) == (172 : Int)) else false) == true) = true), ((bif (((x1.length : Int) : Int) == (2 : Int)) then (((x1.getD ((0 : Int)).toNat (0 : Int)) : Int) == (172 : Int)) else false) = true → ((bif (((x1.length : Int) : Int) == (2 : Int)) then (((x1.getD ((0 : Int)).toNat (0 : Int)) : Int) == (172 : Int)) else false) == true) = true), (((bif (bif (((x1.length : Int) : Int) == (2 : Int)) then (((x1.getD ((0 : Int)).toNat (0 : Int)) : Int) == (172 : Int)) else false) then (((x1.getD ((1 : Int)).toNat (0 : Int)) : Int) == (2 : Int)) else false) == true) = true → ((bif (bif (((x1.length : Int) : Int) == (2 : Int)) then (((x1.getD ((0 : Int)).toNat (0 : Int)) : Int) == (172 : Int)) else false) then (((x1.getD ((1 : Int)).toNat (0 : Int)) : Int) == (2 : Int)) else false) == true) = true), ((bif (bif (((x1.length : Int) : Int) == (2 : Int)) then (((x1.getD ((0 : Int)).toNat (0 : Int)) : Int) == (172 : Int)) else false) then (((x1.getD ((1 : Int)).toNat (0 : Int)) : Int) == (2 : Int)) else false) = true → ((bif (bif (((x1.length : Int) : Int) == (2 : Int)) then (((x1.getD ((0 : Int)).toNat (0 : Int)) : Int) == (172 : Int)) else false) then (((x1.getD ((1 : Int)).toNat (0 : Int)) : Int) == (2 : Int)) else false) == true) = true), (((bif (bif (bif (((x1.length : Int) : Int) == (2 : Int)) then (((x1.getD ((0 : Int)).toNat (0 : Int)) : Int) == (172 : Int)) else false) then (((x1.getD ((1 : Int)).toNat (0 : Int)) : Int) == (2 : Int)) else false) then ((x2.1 : Int) == (300 : Int)) else false) == true) = true → ((bif (bif (bif (((x1.length : Int) : Int) == (2 : Int)) then (((x1.getD ((0 : Int)).toNat (0 : Int)) : Int) == (172 : Int)) else false) then (((x1.getD ((1 : Int)).toNat (0 : Int)) : Int) == (2 : Int)) else false) then ((x2.1 : Int) == (300 : Int)) else false) == true) = true), ((bif (bif (bif (((x1.length : Int) : Int) == (2 : Int)) then (((x1.getD ((0 : Int)).toNat (0 : Int)) : Int) == (172 : Int)) else false) then (((x1.getD ((1 : Int)).toNat (0 : Int)) : Int) == (2 : Int)) else false) then ((x2.1 : Int) == (300 : Int)) else false) = true → ((bif (bif (bif (((x1.length : Int) : Int) == (2 : Int)) then (((x1.getD ((0 : Int)).toNat (0 : Int)) : Int) == (172 : Int)) else false) then (((x1.getD ((1 : Int)).toNat (0 : Int)) : Int) == (2 : Int)) else false) then ((x2.1 : Int) == (300 : Int)) else false) == true) = true), (((bif (bif (bif (bif (((x1.length : Int) : Int) == (2 : Int)) then (((x1.getD ((0 : Int)).toNat (0 : Int)) : Int) == (172 : Int)) else false) then (((x1.getD ((1 : Int)).toNat (0 : Int)) : Int) == (2 : Int)) else false) then ((x2.1 : Int) == (300 : Int)) else false) then ((x2.2.1 : Int) == (2 : Int)) else false) == true) = true → ((bif (bif (bif (bif (((x1.length : Int) : Int) == (2 : Int)) then (((x1.getD ((0 : Int)).toNat (0 : Int)) : Int) == (172 : Int)) else false) then (((x1.getD ((1 : Int)).toNat (0 : Int)) : Int) == (2 : Int)) else false) then ((x2.1 : Int) == (300 : Int)) else false) then ((x2.2.1 : Int) == (2 : Int)) else false) == true) = true), ((bif (bif (bif (bif (((x1.length : Int) : Int) == (2 : Int)) then (((x1.getD ((0 : Int)).toNat (0 : Int)) : Int) == (172 : Int)) else false) then (((x1.getD ((1 : Int)).toNat (0 : Int)) : Int) == (2 : Int)) else false) then ((x2.1 : Int) == (300 : Int)) else false) then ((x2.2.1 : Int) == (2 : Int)) else false) = true → ((bif (bif (bif (bif (((x1.length : Int) : Int) == (2 : Int)) then (((x1.getD ((0 : Int)).toNat (0 : Int)) : Int) == (172 : Int)) else false) then (((x1.getD ((1 : Int)).toNat (0 : Int)) : Int) == (2 : Int)) else false) then ((x2.1 : Int) == (300 : Int)) else false) then ((x2.2.1 : Int) == (2 : Int)) else false) == true) = true), (((bif (bif (bif (bif (bif (((x1.length : Int) : Int) == (2 : Int)) then (((x1.getD ((0 : Int)).toNat (0 : Int)) : Int) == (172 : Int)) else false) then (((x1.getD ((1 : Int)).toNat (0 : Int)) : Int) == (2 : Int)) else false) then ((x2.1 : Int) == (300 : Int)) else false) then ((x2.2.1 : Int) == (2 : Int)) else false) then ((x2.2.2 : Int) == (0 : Int)) else false) == true) = true → ((bif (bif (bif (bif (bif (((x1.length : Int) : Int) == (2 : Int)) then (((x1.getD ((0 : Int)).toNat (0 : Int)) : Int) == (172 : Int)) else false) then (((x1.getD ((1 : Int)).toNat (0 : Int)) : Int) == (2 : Int)) else false) then ((x2.1 : Int) == (300 : Int)) else false) then ((x2.2.1 : Int) == (2 : Int)) else false) then ((x2.2.2 : Int) == (0 : Int)) else false) == true) = true), ((bif (bif (bif (bif (bif (((x1.length : Int) : Int) == (2 : Int)) then (((x1.getD ((0 : Int)).toNat (0 : Int)) : Int) == (172 : Int)) else false) then (((x1.getD ((1 : Int)).toNat (0 : Int)) : Int) == (2 : Int)) else false) then ((x2.1 : Int) == (300 : Int)) else false) then ((x2.2.1 : Int) == (2 : Int)) else false) then ((x2.2.2 : Int) == (0 : Int)) else false) = true → ((bif (bif (bif (bif (bif (((x1.length : Int) : Int) == (2 : Int)) then (((x1.getD ((0 : Int)).toNat (0 : Int)) : Int) == (172 : Int)) else false) then (((x1.getD ((1 : Int)).toNat (0 : Int)) : Int) == (2 : Int)) else false) then ((x2.1 : Int) == (300 : Int)) else false) then ((x2.2.1 : Int) == (2 : Int)) else false) then ((x2.2.2 : Int) == (0 : Int)) else false) == true) = true), (((bif (bif (bif (bif (bif (bif (((x1.length : Int) : Int) == (2 : Int)) then (((x1.getD ((0 : Int)).toNat (0 : Int)) : Int) == (172 : Int)) else false) then (((x1.getD ((1 : Int)).toNat (0 : Int)) : Int) == (2 : Int)) else false) then ((x2.1 : Int) == (300 : Int)) else false) then ((x2.2.1 : Int) == (2 : Int)) else false) then ((x2.2.2 : Int) == (0 : Int)) else false) then ((x3.2.2 : Int) == (3 : Int)) else false) == true) = true → ((bif (bif (bif (bif (bif (bif (((x1.length : Int) : Int) == (2 : Int)) then (((x1.getD ((0 : Int)).toNat (0 : Int)) : Int) == (172 : Int)) else false) then (((x1.getD ((1 : Int)).toNat (0 : Int)) : Int) == (2 : Int)) else false) then ((x2.1 : Int) == (300 : Int)) else false) then ((x2.2.1 : Int) == (2 : Int)) else false) then ((x2.2.2 : Int) == (0 : Int)) else false) then ((x3.2.2 : Int) == (3 : Int)) else false) == true) = true), (((bif (bif (bif (bif (bif (bif (((x1.length : Int) : Int) == (2 : Int)) then (((x1.getD ((0 : Int)).toNat (0 : Int)) : Int) == (172 : Int)) else false) then (((x1.getD ((1 : Int)).toNat (0 : Int)) : Int) == (2 : Int)) else false) then ((x2.1 : Int) == (300 : Int)) else false) then ((x2.2.1 : Int) == (2 : Int)) else false) then ((x2.2.2 : Int) == (0 : Int)) else false) then ((x3.2.2 : Int) == (3 : Int)) else false) == true) = true → ((bif (bif (bif (bif (bif (bif (((x1.length : Int) : Int) == (2 : Int)) then (((x1.getD ((0 : Int)).toNat (0 : Int)) : Int) == (172 : Int)) else false) then (((x1.getD ((1 : Int)).toNat (0 : Int)) : Int) == (2 : Int)) else false) then ((x2.1 : Int) == (300 : Int)) else false) then ((x2.2.1 : Int) == (2 : Int)) else false) then ((x2.2.2 : Int) == (0 : Int)) else false) then ((x3.2.2 : Int) == (3 : Int)) else false) == true) = true), ((bif (bif (bif (bif (bif (bif (((x1.length : Int) : Int) == (2 : Int)) then (((x1.getD ((0 : Int)).toNat (0 : Int)) : Int) == (172 : Int)) else false) then (((x1.getD ((1 : Int)).toNat (0 : Int)) : Int) == (2 : Int)) else false) then ((x2.1 : Int) == (300 : Int)) else false) then ((x2.2.1 : Int) == (2 : Int)) else false) then ((x2.2.2 : Int) == (0 : Int)) else false) then ((x3.2.2 : Int) == (3 : Int)) else false) = true → ((bif (bif (bif (bif (bif (bif (((x1.length : Int) : Int) == (2 : Int)) then (((x1.getD ((0 : Int)).toNat (0 : Int)) : Int) == (172 : Int)) else false) then (((x1.getD ((1 : Int)).toNat (0 : Int)) : Int) == (2 : Int)) else false) then ((x2.1 : Int) == (300 : Int)) else false) then ((x2.2.1 : Int) == (2 : Int)) else false) then ((x2.2.2 : Int) == (0 : Int)) else false) then ((x3.2.2 : Int) == (3 : Int)) else false) == true) = true), (((bif (bif (bif (bif (bif (bif (bif (((x1.length : Int) : Int) == (2 : Int)) then (((x1.getD ((0 : Int)).toNat (0 : Int)) : Int) == (172 : Int)) else false) then (((x1.getD ((1 : Int)).toNat (0 : Int)) : Int) == (2 : Int)) else false) then ((x2.1 : Int) == (300 : Int)) else false) then ((x2.2.1 : Int) == (2 : Int)) else false) then ((x2.2.2 : Int) == (0 : Int)) else false) then ((x3.2.2 : Int) == (3 : Int)) else false) then (((x4.1.length : Int) : Int) == (2 : Int)) else false) == true) = true → ((bif (bif (bif (bif (bif (bif (bif (((x1.length : Int) : Int) == (2 : Int)) then (((x1.getD ((0 : Int)).toNat (0 : Int)) : Int) == (172 : Int)) else false) then (((x1.getD ((1 : Int)).toNat (0 : Int)) : Int) == (2 : Int)) else false) then ((x2.1 : Int) == (300 : Int)) else false) then ((x2.2.1 : Int) == (2 : Int)) else false) then ((x2.2.2 : Int) == (0 : Int)) else false) then ((x3.2.2 : Int) == (3 : Int)) else false) then (((x4.1.length : Int) : Int) == (2 : Int)) else false) == true) = true), (((bif (bif (bif (bif (bif (bif (bif (((x1.length : Int) : Int) == (2 : Int)) then (((x1.getD ((0 : Int)).toNat (0 : Int)) : Int) == (172 : Int)) else false) then (((x1.getD ((1 : Int)).toNat (0 : Int)) : Int) == (2 : Int)) else false) then ((x2.1 : Int) == (300 : Int)) else false) then ((x2.2.1 : Int) == (2 : Int)) else false) then ((x2.2.2 : Int) == (0 : Int)) else false) then ((x3.2.2 : Int) == (3 : Int)) else false) then (((x4.1.length : Int) : Int) == (2 : Int)) else false) == true) = true → (InB (1 : Int) x4.1.length)), (((bif (bif (bif (bif (bif (bif (bif (((x1.length : Int) : Int) == (2 : Int)) then (((x1.getD ((0 : Int)).toNat (0 : Int)) : Int) == (172 : Int)) else false) then (((x1.getD ((1 : Int)).toNat (0 : Int)) : Int) == (2 : Int)) else false) then ((x2.1 : Int) == (300 : Int)) else false) then ((x2.2.1 : Int) == (2 : Int)) else false) then ((x2.2.2 : Int) == (0 : Int)) else false) then ((x3.2.2 : Int) == (3 : Int)) else false) then (((x4.1.length : Int) : Int) == (2 : Int)) else false) == true) = true → ((bif (bif (bif (bif (bif (bif (bif (((x1.length : Int) : Int) == (2 : Int)) then (((x1.getD ((0 : Int)).toNat (0 : Int)) : Int) == (172 : Int)) else false) then (((x1.getD ((1 : Int)).toNat (0 : Int)) : Int) == (2 : Int)) else false) then ((x2.1 : Int) == (300 : Int)) else false) then ((x2.2.1 : Int) == (2 : Int)) else false) then ((x2.2.2 : Int) == (0 : Int)) else false) then ((x3.2.2 : Int) == (3 : Int)) else false) then (((x4.1.length : Int) : Int) == (2 : Int)) else false) == true) = true), (((bif (bif (bif (bif (bif (bif (bif (((x1.length : Int) : Int) == (2 : Int)) then (((x1.getD ((0 : Int)).toNat (0 : Int)) : Int) == (172 : Int)) else false) then (((x1.getD ((1 : Int)).toNat (0 : Int)) : Int) == (2 : Int)) else false) then ((x2.1 : Int) == (300 : Int)) else false) then ((x2.2.1 : Int) == (2 : Int)) else false) then ((x2.2.2 : Int) == (0 : Int)) else false) then ((x3.2.2 : Int) == (3 : Int)) else false) then (((x4.1.length : Int) : Int) == (2 : Int)) else false) == true) = true → ((bif (bif (bif (bif (bif (bif (bif (((x1.length : Int) : Int) == (2 : Int)) then (((x1.getD ((0 : Int)).toNat (0 : Int)) : Int) == (172 : Int)) else false) then (((x1.getD ((1 : Int)).toNat (0 : Int)) : Int) == (2 : Int)) else false) then ((x2.1 : Int) == (300 : Int)) else false) then ((x2.2.1 : Int) == (2 : Int)) else false) then ((x2.2.2 : Int) == (0 : Int)) else false) then ((x3.2.2 : Int) == (3 : Int)) else false) then (((x4.1.length : Int) : Int) == (2 : Int)) else false) == true) = true), ((bif (bif (bif (bif (bif (bif (bif (((x1.length : Int) : Int) == (2 : Int)) then (((x1.getD ((0 : Int)).toNat (0 : Int)) : Int) == (172 : Int)) else false) then (((x1.getD ((1 : Int)).toNat (0 : Int)) : Int) == (2 : Int)) else false) then ((x2.1 : Int) == (300 : Int)) else false) then ((x2.2.1 : Int) == (2 : Int)) else false) then ((x2.2.2 : Int) == (0 : Int)) else false) then ((x3.2.2 : Int) == (3 : Int)) else false) then (((x4.1.length : Int) : Int) == (2 : Int)) else false) = true → ((bif (bif (bif (bif (bif (bif (bif (((x1.length : Int) : Int) == (2 : Int)) then (((x1.getD ((0 : Int)).toNat (0 : Int)) : Int) == (172 : Int)) else false) then (((x1.getD ((1 : Int)).toNat (0 : Int)) : Int) == (2 : Int)) else false) then ((x2.1 : Int) == (300 : Int)) else false) then ((x2.2.1 : Int) == (2 : Int)) else false) then ((x2.2.2 : Int) == (0 : Int)) else false) then ((x3.2.2 : Int) == (3 : Int)) else false) then (((x4.1.length : Int) : Int) == (2 : Int)) else false) == true) = true), (((bif (bif (bif (bif (bif (bif (bif (bif (((x1.length : Int) : Int) == (2 : Int)) then (((x1.getD ((0 : Int)).toNat (0 : Int)) : Int) == (172 : Int)) else false) then (((x1.getD ((1 : Int)).toNat (0 : Int)) : Int) == (2 : Int)) else false) then ((x2.1 : Int) == (300 : Int)) else false) then ((x2.2.1 : Int) == (2 : Int)) else false) then ((x2.2.2 : Int) == (0 : Int)) else false) then ((x3.2.2 : Int) == (3 : Int)) else false) then (((x4.1.length : Int) : Int) == (2 : Int)) else false) then (((x4.1.getD ((1 : Int)).toNat (0 : Int)) : Int) == (6 : Int)) else false) == true) = true → ((bif (bif (bif (bif (bif (bif (bif (bif (((x1.length : Int) : Int) == (2 : Int)) then (((x1.getD ((0 : Int)).toNat (0 : Int)) : Int) == (172 : Int)) else false) then (((x1.getD ((1 : Int)).toNat (0 : Int)) : Int) == (2 : Int)) else false) then ((x2.1 : Int) == (300 : Int)) else false) then ((x2.2.1 : Int) == (2 : Int)) else false) then ((x2.2.2 : Int) == (0 : Int)) else false) then ((x3.2.2 : Int) == (3 : Int)) else false) then (((x4.1.length : Int) : Int) == (2 : Int)) else false) then (((x4.1.getD ((1 : Int)).toNat (0 : Int)) : Int) == (6 : Int)) else false) == true) = true), ((bif (bif (bif (bif (bif (bif (bif (bif (((x1.length : Int) : Int) == (2 : Int)) then (((x1.getD ((0 : Int)).toNat (0 : Int)) : Int) == (172 : Int)) else false) then (((x1.getD ((1 : Int)).toNat (0 : Int)) : Int) == (2 : Int)) else false) then ((x2.1 : Int) == (300 : Int)) else false) then ((x2.2.1 : Int) == (2 : Int)) else false) then ((x2.2.2 : Int) == (0 : Int)) else false) then ((x3.2.2 : Int) == (3 : Int)) else false) then (((x4.1.length : Int) : Int) == (2 : Int)) else false) then (((x4.1.getD ((1 : Int)).toNat (0 : Int)) : Int) == (6 : Int)) else false) = true → ((bif (bif (bif (bif (bif (bif (bif (bif (((x1.length : Int) : Int) == (2 : Int)) then (((x1.getD ((0 : Int)).toNat (0 : Int)) : Int) == (172 : Int)) else false) then (((x1.getD ((1 : Int)).toNat (0 : Int)) : Int) == (2 : Int)) else false) then ((x2.1 : Int) == (300 : Int)) else false) then ((x2.2.1 : Int) == (2 : Int)) else false) then ((x2.2.2 : Int) == (0 : Int)) else false) then ((x3.2.2 : Int) == (3 : Int)) else false) then (((x4.1.length : Int) : Int) == (2 : Int)) else false) then (((x4.1.getD ((1 : Int)).toNat (0 : Int)) : Int) == (6 : Int)) else false) == true) = true), (((bif (bif (bif (bif (bif (bif (bif (bif (bif (((x1.length : Int) : Int) == (2 : Int)) then (((x1.getD ((0 : Int)).toNat (0 : Int)) : Int) == (172 : Int)) else false) then (((x1.getD ((1 : Int)).toNat (0 : Int)) : Int) == (2 : Int)) else false) then ((x2.1 : Int) == (300 : Int)) else false) then ((x2.2.1 : Int) == (2 : Int)) else false) then ((x2.2.2 : Int) == (0 : Int)) else false) then ((x3.2.2 : Int) == (3 : Int)) else false) then (((x4.1.length : Int) : Int) == (2 : Int)) else false) then (((x4.1.getD ((1 : Int)).toNat (0 : Int)) : Int) == (6 : Int)) else false) then ((x4.2.1 : Int) == (3 : Int)) else false) == true) = true → ((bif (bif (bif (bif (bif (bif (bif (bif (bif (((x1.length : Int) : Int) == (2 : Int)) then (((x1.getD ((0 : Int)).toNat (0 : Int)) : Int) == (172 : Int)) else false) then (((x1.getD ((1 : Int)).toNat (0 : Int)) : Int) == (2 : Int)) else false) then ((x2.1 : Int) == (300 : Int)) else false) then ((x2.2.1 : Int) == (2 : Int)) else false) then ((x2.2.2 : Int) == (0 : Int)) else false) then ((x3.2.2 : Int) == (3 : Int)) else false) then (((x4.1.length : Int) : Int) == (2 : Int)) else false) then (((x4.1.getD ((1 : Int)).toNat (0 : Int)) : Int) == (6 : Int)) else false) then ((x4.2.1 : Int) == (3 : Int)) else false) == true) = true), ((bif (bif (bif (bif (bif (bif (bif (bif (bif (((x1.length : Int) : Int) == (2 : Int)) then (((x1.getD ((0 : Int)).toNat (0 : Int)) : Int) == (172 : Int)) else false) then (((x1.getD ((1 : Int)).toNat (0 : Int)) : Int) == (2 : Int)) else false) then ((x2.1 : Int) == (300 : Int)) else false) then ((x2.2.1 : Int) == (2 : Int)) else false) then ((x2.2.2 : Int) == (0 : Int)) else false) then ((x3.2.2 : Int) == (3 : Int)) else false) then (((x4.1.length : Int) : Int) == (2 : Int)) else false) then (((x4.1.getD ((1 : Int)).toNat (0 : Int)) : Int) == (6 : Int)) else false) then ((x4.2.1 : Int) == (3 : Int)) else false) = true → ((bif (bif (bif (bif (bif (bif (bif (bif (bif (((x1.length : Int) : Int) == (2 : Int)) then (((x1.getD ((0 : Int)).toNat (0 : Int)) : Int) == (172 : Int)) else false) then (((x1.getD ((1 : Int)).toNat (0 : Int)) : Int) == (2 : Int)) else false) then ((x2.1 : Int) == (300 : Int)) else false) then ((x2.2.1 : Int) == (2 : Int)) else false) then ((x2.2.2 : Int) == (0 : Int)) else false) then ((x3.2.2 : Int) == (3 : Int)) else false) then (((x4.1.length : Int) : Int) == (2 : Int)) else false) then (((x4.1.getD ((1 : Int)).toNat (0 : Int)) : Int) == (6 : Int)) else false) then ((x4.2.1 : Int) == (3 : Int)) else false) == true) = true)]) hn mix (no_hand hΓ) (by kernel_rfl) ⟨(fun hg => hg), (fun hg => (hc5 hg)), (fun hg => hg), (fun hg => hg), (fun hp => by rw [hp]; rfl), (fun hg => hg), (fun hg => (hc6 hg)), (fun hg => hg), (fun hg => hg), (fun hp => by rw [hp]; rfl), (fun hg => hg), (fun hp => by rw [hp]; rfl), (fun hg => hg), (fun hp => by rw [hp]; rfl), (fun hg => hg), (fun hp => by rw [hp]; rfl), (fun hg => hg), (fun hp => by rw [hp]; rfl), (fun hg => hg), (fun hg => hg), (fun hp => by rw [hp]; rfl), (fun hg => hg), (fun hg => (hc7 hg)), (fun hg => hg), (fun hg => hg), (fun hp => by rw [hp]; rfl), (fun hg => hg), (fun hp => by rw [hp]; rfl), (fun hg => hg), (fun hp => by rw [hp]; rfl), trivial⟩ ?_
  refine then_normal ?_
  refine awp_ret ?_
  obtain rfl := Option.some.inj h
  exact ⟨.inl rfl, [], by kernel_rfl⟩

noncomputable def mB_lockstepref02_Put (rec_lockstepref02_Put : Int → Option (List (Int))) (a_v : Int) : Option (List (Int)) :=
  (bif (decide ((a_v : Int) < (128 : Int))) then (some ([(wu8 a_v)] : List (Int))) else ((rec_lockstepref02_Put (wu64 (Int.tdiv a_v (128 : Int)))).bind fun x1 => (chk (([(wu8 (wu64 ((Int.tmod a_v (128 : Int)) + (128 : Int))))] : List (Int)).length + x1.length ≤ room) (some (([(wu8 (wu64 ((Int.tmod a_v (128 : Int)) + (128 : Int))))] : List (Int)) ++ x1)))))
noncomputable def mN_lockstepref02_Put : Nat → Int → Option (List (Int))
  | 0 => fun _ => none
  | n + 1 => mB_lockstepref02_Put (mN_lockstepref02_Put n)
noncomputable def m_lockstepref02_Put (a_v : Int) : Option (List (Int)) := fixO fun n => mN_lockstepref02_Put n a_v
theorem okN_lockstepref02_Put (n : Nat) : (∀ (a_v : Int) (r : List (Int)), mN_lockstepref02_Put n a_v = some r → Spec Try.prog 12 [(.int .u64 a_v)] [] (AV.list 1 eU8 (0 : Int) r (.own 20000)) [(20000, .tok 1 5 r.length)]) := by
  induction n with
  | zero => exact fun a_v r h => by cases h
  | succ n ih =>
    have ih_lockstepref02_Put := ih
    intro a_v r h
    refine spec_of_awp (fn := Try.f12) Try.func12 rfl rfl (by kernel_rfl) (fun Γ hn hΓ => ?_)
    have hn : Γ.n = 17 := hn
    change mB_lockstepref02_Put (mN_lockstepref02_Put n) a_v = some r at h
    unfold mB_lockstepref02_Put at h
    refine awp_seq ?_
    refine awp_region (rs := []) (cs := [(2, (AV.list 1 eU8 (0 : Int) ([] : List Int) .exact))]) (live := [0]) (names := []) (st' := (⟨[(0, (.int .u64 a_v))], []⟩ : St)) (obs := [(AVle (.slice 0 0 (fun _ => []) .exact) (AV.list 1 eU8 (0 : Int) ([] : List Int) .exact))]) hn mix (no_hand hΓ) (by kernel_rfl) ⟨av_nil, trivial⟩ ?_
    refine then_normal ?_
    refine awp_seq ?_
    refine awp_seq ?_
    refine awp_region (rs := []) (cs := []) (live := [0, 4]) (names := []) (st' := (⟨[(0, (.int .u64 a_v)), (4, (.bool (decide ((a_v : Int) < (128 : Int)))))], []⟩ : St)) (obs := []) hn mix (no_hand hΓ) (by kernel_rfl) trivial ?_
    refine then_normal ?_
    refine awp_cond (decide ((a_v : Int) < (128 : Int))) (by kernel_rfl) (fun hb => ?_) (fun hb => ?_)
    · replace h := cond_t hb h
      clear hb
      refine awp_seq ?_
      refine awp_region (rs := []) (cs := [(7, (AV.list 1 eU8 (0 : Int) ([(wu8 a_v)] : List (Int)) .exact))]) (live := [2]) (names := []) (st' := (⟨[(2, (AV.list 1 eU8 (0 : Int) ([(wu8 a_v)] : List (Int)) .exact))], []⟩ : St)) (obs := [(AVle (.slice 1 1 (fun i => ([[(.int .u8 (wu8 a_v))]] : List (List AV)).getD i []) .exact) (AV.list 1 eU8 (0 : Int) ([(wu8 a_v)] : List (Int)) .exact))]) hn mix (no_hand hΓ) (by kernel_rfl) ⟨(av_lit rfl (fun i hi => map_get (e := eU8) (d := (0 : Int)) ([(wu8 a_v)] : List (Int)) i hi)), trivial⟩ ?_
      refine then_normal ?_
      refine awp_le (st' := (⟨[(2, (AV.list 1 eU8 (0 : Int) ([(wu8 a_v)] : List (Int)) (.own 6002)))], [(6002, .tok 1 5 (([(wu8 a_v)] : List (Int)).length))]⟩ : St)) (Le.trans (le_restrict_eq (st' := (⟨[(2, (AV.list 1 eU8 (0 : Int) ([(wu8 a_v)] : List (Int)) .exact))], []⟩ : St)) [2] [] (by kernel_rfl) (no_hand hΓ)) (Le.trans (le_tag (t := 2) (nm := 6002) (sz' := 1) (fun i => eU8 (([(wu8 a_v)] : List (Int)).getD i (0 : Int))) 5 rfl rfl (.inl ⟨rfl, rfl⟩)) (le_eq (st' := (⟨[(2, (AV.list 1 eU8 (0 : Int) ([(wu8 a_v)] : List (Int)) (.own 6002)))], [(6002, .tok 1 5 (([(wu8 a_v)] : List (Int)).length))]⟩ : St)) (by kernel_rfl)))) ?_
      refine awp_ret ?_
      refine then_ret ?_
      obtain rfl := Option.some.inj h
      exact ⟨.inl rfl, [(6002, 20000)], by kernel_rfl⟩
    · replace h := cond_f hb h
      clear hb
      refine awp_skip ?_
      refine then_normal ?_
      refine awp_seq ?_
      obtain ⟨x1, hx1, h⟩ := bind_some h
      obtain ⟨hc2, h⟩ := chk_some h
      refine awp_region (rs := [⟨[], [(20000, 15)], (AV.list 1 eU8 (0 : Int) x1 (.own 20000)), [(20000, .tok 1 5 x1.length)]⟩]) (cs := [(12, (AV.list 1 eU8 (0 : Int) ([(wu8 (wu64 ((Int.tmod a_v (128 : Int)) + (128 : Int))))] : List (Int)) .exact)), (16, (AV.list 1 eU8 (0 : Int) (([(wu8 (wu64 ((Int.tmod a_v (128 : Int)) + (128 : Int))))] : List (Int)) ++ x1) (.own 16)))]) (live := [2]) (names := [16]) (st' := (⟨[(2, (AV.list 1 eU8 (0 : Int) (([(wu8 (wu64 ((Int.tmod a_v (128 : Int)) + (128 : Int))))] : List (Int)) ++ x1) (.own 16)))], [(16, .tok 1 5 ((([(wu8 (wu64 ((Int.tmod a_v (128 : Int)) + (128 : Int))))] : List (Int)) ++ x1).length))]⟩ : St)) (obs := [((128 : Int) ≠ 0), (AVle (.slice 1 1 (fun i => ([[(.int .u8 (wu8 (wu64 ((Int.tmod a_v (128 : Int)) + (128 : Int)))))]] : List (List AV)).getD i []) .exact) (AV.list 1 eU8 (0 : Int) ([(wu8 (wu64 ((Int.tmod a_v (128 : Int)) + (128 : Int))))] : List (Int)) .exact)), ((128 : Int) ≠ 0), (Spec Try.prog 12 [(.int .u64 (wu64 (Int.tdiv a_v (128 : Int))))] [] (AV.list 1 eU8 (0 : Int) x1 (.own 20000)) [(20000, .tok 1 5 x1.length)]), (([(wu8 (wu64 ((Int.tmod a_v (128 : Int)) + (128 : Int))))] : List (Int)).length + x1.length ≤ room), (AVle (.slice 1 (([(wu8 (wu64 ((Int.tmod a_v (128 : Int)) + (128 : Int))))] : List (Int)).length + x1.length) (appF ([(wu8 (wu64 ((Int.tmod a_v (128 : Int)) + (128 : Int))))] : List (Int)).length (fun i => eU8 (([(wu8 (wu64 ((Int.tmod a_v (128 : Int)) + (128 : Int))))] : List (Int)).getD i (0 : Int))) (fun i => eU8 (x1.getD i (0 : Int)))) (.own 16)) (AV.list 1 eU8 (0 : Int) (([(wu8 (wu64 ((Int.tmod a_v (128 : Int)) + (128 : Int))))] : List (Int)) ++ x1) (.own 16))), (([(wu8 (wu64 ((Int.tmod a_v (128 : Int)) + (128 : Int))))] : List (Int)).length + x1.length = (([(wu8 (wu64 ((Int.tmod a_v (128 : Int)) + (128 : Int))))] : List (Int)) ++ x1).length)]) hn mix (no_hand hΓ) (by kernel_rfl) ⟨(by decide), (av_lit rfl (fun i hi => map_get (e := eU8) (d := (0 : Int)) ([(wu8 (wu64 ((Int.tmod a_v (128 : Int)) + (128 : Int))))] : List (Int)) i hi)), (by decide), (ih_lockstepref02_Put (wu64 (Int.tdiv a_v (128 : Int))) x1 hx1), hc2, av_app, (len_app _ _), trivial⟩ ?_
      refine then_normal ?_
      refine awp_ret ?_
      obtain rfl := Option.some.inj h
      exact ⟨.inl rfl, [(16, 20000)], by kernel_rfl⟩
theorem ok_lockstepref02_Put (a_v : Int) (r : List (Int)) (h : m_lockstepref02_Put a_v = some r) : Spec Try.prog 12 [(.int .u64 a_v)] [] (AV.list 1 eU8 (0 : Int) r (.own 20000)) [(20000, .tok 1 5 r.length)] := by
  obtain ⟨n, hn⟩ := fixO_some h
  exact (okN_lockstepref02_Put n) a_v r hn

noncomputable def m_lockstepref02_Same_L1 (a_a : List (Int)) (a_b : List (Int)) : Int → Option (LR Int (Unit ⊕ Bool)) :=
  fun (i1 : Int) => (bif (decide ((i1 : Int) < (a_a.length : Int))) then (chk (InB i1 a_a.length) (chk (InB i1 a_b.length) (bif (((a_a.getD (i1).toNat (0 : Int)) : Int) != (a_b.getD (i1).toNat (0 : Int))) then (some (.done (.inr false))) else (some (.next (w64 (i1 + (1 : Int)))))))) else (some (.done (.inl ()))))
noncomputable def m_lockstepref02_Same (a_a : List (Int)) (a_b : List (Int)) : Option Bool :=
  (bif (((a_a.length : Int) : Int) != (a_b.length : Int)) then (some false) else ((loopO (S := Int) (X := (Unit ⊕ Bool)) (m_lockstepref02_Same_L1 a_a a_b) (0 : Int)).bind (fun x4 => (match x4 with | (.inl _) => (some true) | (.inr r6) => (some r6)))))
theorem ok_lockstepref02_Same (a_a : List (Int)) (a_b : List (Int)) (r : Bool) (h : m_lockstepref02_Same a_a a_b = some r) : Spec Try.prog 11 [(AV.list 1 eU8 (0 : Int) a_a .none), (AV.list 1 eU8 (0 : Int) a_b .none)] [] (.bool r) [] := by
  refine spec_of_awp (fn := Try.f11) Try.func11 rfl rfl (by kernel_rfl) (fun Γ hn hΓ => ?_)
  have hn : Γ.n = 26 := hn
  unfold m_lockstepref02_Same at h
  refine awp_seq ?_
  refine awp_region (rs := []) (cs := []) (live := [0, 1]) (names := []) (st' := (⟨[(0, (AV.list 1 eU8 (0 : Int) a_a .none)), (1, (AV.list 1 eU8 (0 : Int) a_b .none))], []⟩ : St)) (obs := []) hn mix (no_hand hΓ) (by kernel_rfl) trivial ?_
  refine then_normal ?_
  refine awp_seq ?_
  refine awp_seq ?_
  refine awp_region (rs := []) (cs := []) (live := [0, 1, 10]) (names := []) (st' := (⟨[(0, (AV.list 1 eU8 (0 : Int) a_a .none)), (1, (AV.list 1 eU8 (0 : Int) a_b .none)), (10, (.bool (((a_a.length : Int) : Int) != (a_b.length : Int))))], []⟩ : St)) (obs := []) hn mix (no_hand hΓ) (by kernel_rfl) trivial ?_
  refine then_normal ?_
  refine awp_cond (((a_a.length : Int) : Int) != (a_b.length : Int)) (by kernel_rfl) (fun hb => ?_) (fun hb => ?_)
  · replace h := cond_t hb h
    clear hb
    refine awp_seq ?_
    refine awp_region (rs := []) (cs := []) (live := [4]) (names := []) (st' := (⟨[(4, (.bool false))], []⟩ : St)) (obs := []) hn mix (no_hand hΓ) (by kernel_rfl) trivial ?_
    refine then_normal ?_
    refine awp_ret ?_
    refine then_ret ?_
    obtain rfl := Option.some.inj h
    exact ⟨.inl rfl, [], by kernel_rfl⟩
  · replace h := cond_f hb h
    clear hb
    refine awp_skip ?_
    refine then_normal ?_
    refine awp_seq ?_
    refine awp_seq ?_
    refine awp_region (rs := []) (cs := []) (live := [0, 1, 5]) (names := []) (st' := (⟨[(0, (AV.list 1 eU8 (0 : Int) a_a .none)), (1, (AV.list 1 eU8 (0 : Int) a_b .none)), (5, (.int .i64 (0 : Int)))], []⟩ : St)) (obs := []) hn mix (no_hand hΓ) (by kernel_rfl) trivial ?_
    refine then_normal ?_
    refine awp_block ?_
    refine awp_le (st' := (fun (i1 : Int) => (⟨[(0, (AV.list 1 eU8 (0 : Int) a_a .none)), (1, (AV.list 1 eU8 (0 : Int) a_b .none)), (5, (.int .i64 i1))], []⟩ : St)) (0 : Int)) (Le.refl _ _) ?_
    obtain ⟨x4, hx4, h⟩ := bind_some h
    refine awp_loop (fun (i1 : Int) => (⟨[(0, (AV.list 1 eU8 (0 : Int) a_a .none)), (1, (AV.list 1 eU8 (0 : Int) a_b .none)), (5, (.int .i64 i1))], []⟩ : St)) _ (fun (x_ : (Unit ⊕ Bool)) (e : Exit) (st : St) => match x_ with | (.inl _) => e = (.exit 0) ∧ Le Γ st (⟨[], []⟩ : St) | (.inr r_) => e = .ret ∧ retK Try.prog Try.f11.results.toList [] (.bool r_) [] e st) ?_ hx4 ?_
    · intro i1 y h
      unfold m_lockstepref02_Same_L1 at h
      refine awp_seq ?_
      refine awp_seq ?_
      refine awp_region (rs := []) (cs := []) (live := [0, 1, 5, 14]) (names := []) (st' := (⟨[(0, (AV.list 1 eU8 (0 : Int) a_a .none)), (1, (AV.list 1 eU8 (0 : Int) a_b .none)), (5, (.int .i64 i1)), (14, (.bool (decide ((i1 : Int) < (a_a.length : Int)))))], []⟩ : St)) (obs := []) hn mix (no_hand hΓ) (by kernel_rfl) trivial ?_
      refine then_normal ?_
      refine awp_cond (decide ((i1 : Int) < (a_a.length : Int))) (by kernel_rfl) (fun hb => ?_) (fun hb => ?_)
      · replace h := cond_t hb h
        clear hb
        refine awp_skip ?_
        refine then_normal ?_
        refine awp_seq ?_
        refine awp_block ?_
        refine awp_seq ?_
        obtain ⟨hc2, h⟩ := chk_some h
        obtain ⟨hc3, h⟩ := chk_some h
        refine awp_region (rs := []) (cs := []) (live := [0, 1, 5, 25]) (names := []) (st' := (⟨[(0, (AV.list 1 eU8 (0 : Int) a_a .none)), (1, (AV.list 1 eU8 (0 : Int) a_b .none)), (5, (.int .i64 i1)), (25, (.bool (((a_a.getD (i1).toNat (0 : Int)) : Int) != (a_b.getD (i1).toNat (0 : Int)))))], []⟩ : St)) (obs := [(InB i1 a_a.length), (InB i1 a_b.length)]) hn mix (no_hand hΓ) (by kernel_rfl) ⟨hc2, hc3, trivial⟩ ?_
        refine then_normal ?_
        refine awp_cond (((a_a.getD (i1).toNat (0 : Int)) : Int) != (a_b.getD (i1).toNat (0 : Int))) (by kernel_rfl) (fun hb => ?_) (fun hb => ?_)
        · replace h := cond_t hb h
          clear hb
          refine awp_seq ?_
          refine awp_region (rs := []) (cs := []) (live := [4]) (names := []) (st' := (⟨[(4, (.bool false))], []⟩ : St)) (obs := []) hn mix (no_hand hΓ) (by kernel_rfl) trivial ?_
          refine then_normal ?_
          refine awp_ret ?_
          refine block_ret ?_
          refine then_ret ?_
          obtain rfl := Option.some.inj h
          exact ⟨(by intro hh; cases hh), rfl, ⟨.inl rfl, [], by kernel_rfl⟩⟩
        · replace h := cond_f hb h
          clear hb
          refine awp_skip ?_
          refine block_normal ?_
          refine then_normal ?_
          refine awp_region (rs := []) (cs := []) (live := [0, 1, 5]) (names := []) (st' := (⟨[(0, (AV.list 1 eU8 (0 : Int) a_a .none)), (1, (AV.list 1 eU8 (0 : Int) a_b .none)), (5, (.int .i64 (w64 (i1 + (1 : Int)))))], []⟩ : St)) (obs := []) hn mix (no_hand hΓ) (by kernel_rfl) trivial ?_
          obtain rfl := Option.some.inj h
          exact ⟨rfl, Le.refl _ _⟩
      · replace h := cond_f hb h
        clear hb
        refine awp_exit ?_
        refine then_exit ?_
        obtain rfl := Option.some.inj h
        exact ⟨(by intro hh; cases hh), rfl, le_restrict_eq [] [] (by kernel_rfl) (no_hand hΓ)⟩
    · clear hx4
      rcases x4 with _ | r6
      · rintro e st' ⟨rfl, hl5⟩
        refine block_here ?_
        refine then_normal ?_
        refine awp_le hl5 ?_
        refine awp_seq ?_
        refine awp_region (rs := []) (cs := []) (live := [4]) (names := []) (st' := (⟨[(4, (.bool true))], []⟩ : St)) (obs := []) hn mix (no_hand hΓ) (by kernel_rfl) trivial ?_
        refine then_normal ?_
        refine awp_ret ?_
        obtain rfl := Option.some.inj h
        exact ⟨.inl rfl, [], by kernel_rfl⟩
      · rintro e st' ⟨rfl, hk⟩
        refine block_ret ?_
        refine then_ret ?_
        obtain rfl := Option.some.inj h
        exact hk

noncomputable def m_locksteplaw02_NumGoes (a_v : Int) (a_p1 : List (Int)) (a_p2 : Int) : Option Bool :=
  ((m_locksteplaw02_awake).bind fun x1 => (bif (!x1) then (some false) else (bif (decide (((1000 : Int) : Int) < (a_p1.length : Int))) then (some true) else ((m_num_Put a_v).bind fun x2 => (chk (([] : List Int).length + x2.length ≤ room) (chk ((([] : List Int) ++ x2).length + a_p1.length ≤ room) ((m_num_Get ((([] : List Int) ++ x2) ++ a_p1)).bind fun x5 => (bif (((x2.length : Int) : Int) == (0 : Int)) then (some false) else (chk ((x2.length : Int) ≠ 0) (chk (0 ≤ (Int.tmod (w64 a_p2) (x2.length : Int)) ∧ (Int.tmod (w64 a_p2) (x2.length : Int)) ≤ (x2.length : Int)) ((m_num_Get (x2.take ((Int.tmod (w64 a_p2) (x2.length : Int))).toNat)).bind fun x8 => ((m_lockstepref02_Put a_v).bind fun x9 => ((m_lockstepref02_Same x2 x9).bind fun x10 => (some (bif (bif (bif (bif x10 then ((x5.2.2 : Int) == (0 : Int)) else false) then ((x5.1 : Int) == a_v) else false) then ((x5.2.1 : Int) == (x2.length : Int)) else false) then ((x8.2.2 : Int) == (2 : Int)) else false)))))))))))))))
theorem ok_locksteplaw02_NumGoes (a_v : Int) (a_p1 : List (Int)) (a_p2 : Int) (r : Bool) (h : m_locksteplaw02_NumGoes a_v a_p1 a_p2 = some r) : Spec Try.prog 3 [(.int .u64 a_v), (AV.list 1 eU8 (0 : Int) a_p1 .none), (.int .u8 a_p2)] [] (.bool r) [] := by
  refine spec_of_awp (fn := Try.f3) Try.func3 rfl rfl (by kernel_rfl) (fun Γ hn hΓ => ?_)
  have hn : Γ.n = 69 := hn
  unfold m_locksteplaw02_NumGoes at h
  refine awp_seq ?_
  refine awp_region (rs := []) (cs := []) (live := [0, 1, 2]) (names := []) (st' := (⟨[(0, (.int .u64 a_v)), (1, (AV.list 1 eU8 (0 : Int) a_p1 .none)), (2, (.int .u8 a_p2))], []⟩ : St)) (obs := []) hn mix (no_hand hΓ) (by kernel_rfl) trivial ?_
  refine then_normal ?_
  refine awp_seq ?_
  refine awp_seq ?_
  obtain ⟨x1, hx1, h⟩ := bind_some h
  refine awp_region (rs := [⟨[], [], (.bool x1), []⟩]) (cs := []) (live := [0, 1, 2, 15]) (names := []) (st' := (⟨[(0, (.int .u64 a_v)), (1, (AV.list 1 eU8 (0 : Int) a_p1 .none)), (2, (.int .u8 a_p2)), (15, (.bool (!x1)))], []⟩ : St)) (obs := [(Spec Try.prog 8 [] [] (.bool x1) [])]) hn mix (no_hand hΓ) (by kernel_rfl) ⟨(ok_locksteplaw02_awake  x1 hx1), trivial⟩ ?_
  refine then_normal ?_
  refine awp_cond (!x1) (by kernel_rfl) (fun hb => ?_) (fun hb => ?_)
  · replace h := cond_t hb h
    clear hb
    refine awp_seq ?_
    refine awp_region (rs := []) (cs := []) (live := [6]) (names := []) (st' := (⟨[(6, (.bool false))], []⟩ : St)) (obs := []) hn mix (no_hand hΓ) (by kernel_rfl) trivial ?_
    refine then_normal ?_
    refine awp_ret ?_
    refine then_ret ?_
    obtain rfl := Option.some.inj h
    exact ⟨.inl rfl, [], by kernel_rfl⟩
  · replace h := cond_f hb h
    clear hb
    refine awp_skip ?_
    refine then_normal ?_
    refine awp_seq ?_
    refine awp_seq ?_
    refine awp_region (rs := []) (cs := []) (live := [0, 1, 2, 18]) (names := []) (st' := (⟨[(0, (.int .u64 a_v)), (1, (AV.list 1 eU8 (0 : Int) a_p1 .none)), (2, (.int .u8 a_p2)), (18, (.bool (decide (((1000 : Int) : Int) < (a_p1.length : Int)))))], []⟩ : St)) (obs := []) hn mix (no_hand hΓ) (by kernel_rfl) trivial ?_
    refine then_normal ?_
    refine awp_cond (decide (((1000 : Int) : Int) < (a_p1.length : Int))) (by kernel_rfl) (fun hb => ?_) (fun hb => ?_)
    · replace h := cond_t hb h
      clear hb
      refine awp_seq ?_
      refine awp_region (rs := []) (cs := []) (live := [6]) (names := []) (st' := (⟨[(6, (.bool true))], []⟩ : St)) (obs := []) hn mix (no_hand hΓ) (by kernel_rfl) trivial ?_
      refine then_normal ?_
      refine awp_ret ?_
      refine then_ret ?_
      obtain rfl := Option.some.inj h
      exact ⟨.inl rfl, [], by kernel_rfl⟩
    · replace h := cond_f hb h
      clear hb
      refine awp_skip ?_
      refine then_normal ?_
      refine awp_seq ?_
      obtain ⟨x2, hx2, h⟩ := bind_some h
      refine awp_region (rs := [⟨[], [(20000, 20)], (AV.list 1 eU8 (0 : Int) x2 (.own 20000)), [(20000, .tok 1 5 x2.length)]⟩]) (cs := []) (live := [0, 1, 2, 7]) (names := [20]) (st' := (⟨[(0, (.int .u64 a_v)), (1, (AV.list 1 eU8 (0 : Int) a_p1 .none)), (2, (.int .u8 a_p2)), (7, (AV.list 1 eU8 (0 : Int) x2 (.own 20)))], [(20, .tok 1 5 x2.length)]⟩ : St)) (obs := [(Spec Try.prog 9 [(.int .u64 a_v)] [] (AV.list 1 eU8 (0 : Int) x2 (.own 20000)) [(20000, .tok 1 5 x2.length)])]) hn mix (no_hand hΓ) (by kernel_rfl) ⟨(ok_num_Put a_v x2 hx2), trivial⟩ ?_
      refine then_normal ?_
      refine awp_seq ?_
      obtain ⟨hc3, h⟩ := chk_some h
      obtain ⟨hc4, h⟩ := chk_some h
      obtain ⟨x5, hx5, h⟩ := bind_some h
      refine awp_region (rs := [⟨[], [], (.tuple [(.int .u64 x5.1), (.int .i64 x5.2.1), (.int .i64 x5.2.2)]), []⟩]) (cs := [(22, (AV.list 1 eU8 (0 : Int) ([] : List Int) .exact)), (24, (AV.list 1 eU8 (0 : Int) (([] : List Int) ++ x2) (.own 24))), (26, (AV.list 1 eU8 (0 : Int) ((([] : List Int) ++ x2) ++ a_p1) (.own 24)))]) (live := [0, 2, 7, 8, 9, 10]) (names := [20]) (st' := (⟨[(0, (.int .u64 a_v)), (2, (.int .u8 a_p2)), (7, (AV.list 1 eU8 (0 : Int) x2 (.own 20))), (8, (.int .u64 x5.1)), (9, (.int .i64 x5.2.1)), (10, (.int .i64 x5.2.2))], [(20, .tok 1 5 x2.length)]⟩ : St)) (obs := [(AVle (.slice 1 0 (fun i => ([] : List (List AV)).getD i []) .exact) (AV.list 1 eU8 (0 : Int) ([] : List Int) .exact)), (([] : List Int).length + x2.length ≤ room), (AVle (.slice 1 (([] : List Int).length + x2.length) (appF ([] : List Int).length (fun i => eU8 (([] : List Int).getD i (0 : Int))) (fun i => eU8 (x2.getD i (0 : Int)))) (.own 24)) (AV.list 1 eU8 (0 : Int) (([] : List Int) ++ x2) (.own 24))), (([] : List Int).length + x2.length = (([] : List Int) ++ x2).length), ((([] : List Int) ++ x2).length = (([] : List Int) ++ x2).length), ((([] : List Int) ++ x2).length + a_p1.length ≤ room), (AVle (.slice 1 ((([] : List Int) ++ x2).length + a_p1.length) (appF (([] : List Int) ++ x2).length (fun i => eU8 ((([] : List Int) ++ x2).getD i (0 : Int))) (fun i => eU8 (a_p1.getD i (0 : Int)))) (.own 24)) (AV.list 1 eU8 (0 : Int) ((([] : List Int) ++ x2) ++ a_p1) (.own 24))), ((([] : List Int) ++ x2).length + a_p1.length = ((([] : List Int) ++ x2) ++ a_p1).length), (Spec Try.prog 10 [(AV.list 1 eU8 (0 : Int) ((([] : List Int) ++ x2) ++ a_p1) .none)] [] (.tuple [(.int .u64 x5.1), (.int .i64 x5.2.1), (.int .i64 x5.2.2)]) [])]) hn mix (no_hand hΓ) (by kernel_rfl) ⟨av_lit rfl (fun i hi => absurd hi (Nat.not_lt_zero i)), hc3, av_app, (len_app _ _), rfl, hc4, av_app, (len_app _ _), (ok_num_Get ((([] : List Int) ++ x2) ++ a_p1) x5 hx5), trivial⟩ ?_
      refine then_normal ?_
      refine awp_seq ?_
      refine awp_seq ?_
      refine awp_region (rs := []) (cs := []) (live := [0, 2, 7, 8, 9, 10, 33]) (names := [20]) (st' := (⟨[(0, (.int .u64 a_v)), (2, (.int .u8 a_p2)), (7, (AV.list 1 eU8 (0 : Int) x2 (.own 20))), (8, (.int .u64 x5.1)), (9, (.int .i64 x5.2.1)), (10, (.int .i64 x5.2.2)), (33, (.bool (((x2.length : Int) : Int) == (0 : Int))))], [(20, .tok 1 5 x2.length)]⟩ : St)) (obs := []) hn mix (no_hand hΓ) (by kernel_rfl) trivial ?_
      refine then_normal ?_
      refine awp_cond (((x2.length : Int) : Int) == (0 : Int)) (by kernel_rfl) (fun hb => ?_) (fun hb => ?_)
      · replace h := cond_t hb h
        clear hb
        refine awp_seq ?_
        refine awp_region (rs := []) (cs := []) (live := [6]) (names := []) (st' := (⟨[(6, (.bool false))], []⟩ : St)) (obs := []) hn mix (no_hand hΓ) (by kernel_rfl) trivial ?_
        refine then_normal ?_
        refine awp_ret ?_
        refine then_ret ?_
        obtain rfl := Option.some.inj h
        exact ⟨.inl rfl, [], by kernel_rfl⟩
      · replace h := cond_f hb h
        clear hb
        refine awp_skip ?_
        refine then_normal ?_
        refine awp_seq ?_
        obtain ⟨hc6, h⟩ := chk_some h
        obtain ⟨hc7, h⟩ := chk_some h
        obtain ⟨x8, hx8, h⟩ := bind_some h
        refine awp_region (rs := [⟨[], [], (.tuple [(.int .u64 x8.1), (.int .i64 x8.2.1), (.int .i64 x8.2.2)]), []⟩]) (cs := [(41, (AV.list 1 eU8 (0 : Int) (x2.take ((Int.tmod (w64 a_p2) (x2.length : Int))).toNat) .none))]) (live := [0, 7, 8, 9, 10, 13]) (names := [20]) (st' := (⟨[(0, (.int .u64 a_v)), (7, (AV.list 1 eU8 (0 : Int) x2 (.own 20))), (8, (.int .u64 x5.1)), (9, (.int .i64 x5.2.1)), (10, (.int .i64 x5.2.2)), (13, (.int .i64 x8.2.2))], [(20, .tok 1 5 x2.length)]⟩ : St)) (obs := [((x2.length : Int) ≠ 0), (0 ≤ (Int.tmod (w64 a_p2) (x2.length : Int)) ∧ (Int.tmod (w64 a_p2) (x2.length : Int)) ≤ (x2.length : Int)), (AVle (.slice 1 ((Int.tmod (w64 a_p2) (x2.length : Int))).toNat (fun i => eU8 (x2.getD i (0 : Int))) .none) (AV.list 1 eU8 (0 : Int) (x2.take ((Int.tmod (w64 a_p2) (x2.length : Int))).toNat) .none)), (Spec Try.prog 10 [(AV.list 1 eU8 (0 : Int) (x2.take ((Int.tmod (w64 a_p2) (x2.length : Int))).toNat) .none)] [] (.tuple [(.int .u64 x8.1), (.int .i64 x8.2.1), (.int .i64 x8.2.2)]) [])]) hn mix (no_hand hΓ) (by kernel_rfl) ⟨hc6, hc7, (av_take (by have hq := hc7; omega)), (ok_num_Get (x2.take ((Int.tmod (w64 a_p2) (x2.length : Int))).toNat) x8 hx8), trivial⟩ ?_
        refine then_normal ?_
        refine awp_seq ?_
        obtain ⟨x9, hx9, h⟩ := bind_some h
        obtain ⟨x10, hx10, h⟩ := bind_some h
        refine awp_region (rs := [⟨[], [(20000, 48)], (AV.list 1 eU8 (0 : Int) x9 (.own 20000)), [(20000, .tok 1 5 x9.length)]⟩, ⟨[], [], (.bool x10), []⟩]) (cs := []) (live := [6]) (names := []) (st' := (⟨[(6, (.bool (bif (bif (bif (bif x10 then ((x5.2.2 : Int) == (0 : Int)) else false) then ((x5.1 : Int) == a_v) else false) then ((x5.2.1 : Int) == (x2.length : Int)) else false) then ((x8.2.2 : Int) == (2 : Int)) else false)))], []⟩ : St)) (obs := [(Spec Try.prog 12 [(.int .u64 a_v)] [] (AV.list 1 eU8 (0 : Int) x9 (.own 20000)) [(20000, .tok 1 5 x9.length)]), (Spec Try.prog 11 [(AV.list 1 eU8 (0 : Int) x2 .none), (AV.list 1 eU8 (0 : Int) x9 .none)] [] (.bool x10) []), ((x10 == true) = true → (x10 == true) = true), (x10 = true → (x10 == true) = true), (((bif x10 then ((x5.2.2 : Int) == (0 : Int)) else false) == true) = true → ((bif x10 then ((x5.2.2 : Int) == (0 : Int)) else false) == true) = true), (((bif x10 then ((x5.2.2 : Int) == (0 : Int)) else false) == true) = true → ((bif x10 then ((x5.2.2 : Int) == (0 : Int)) else false) == true) = true), ((bif x10 then ((x5.2.2 : Int) == (0 : Int)) else false) = true → ((bif x10 then ((x5.2.2 : Int) == (0 : Int)) else false) == true) = true), (((bif (bif x10 then ((x5.2.2 : Int) == (0 : Int)) else false) then ((x5.1 : Int) == a_v) else false) == true) = true → ((bif (bif x10 then ((x5.2.2 : Int) == (0 : Int)) else false) then ((x5.1 : Int) == a_v) else false) == true) = true), (((bif (bif x10 then ((x5.2.2 : Int) == (0 : Int)) else false) then ((x5.1 : Int) == a_v) else false) == true) = true → ((bif (bif x10 then ((x5.2.2 : Int) == (0 : Int)) else false) then ((x5.1 : Int) == a_v) else false) == true) = true), (((bif (bif x10 then ((x5.2.2 : Int) == (0 : Int)) else false) then ((x5.1 : Int) == a_v) else false) == true) = true → ((bif (bif x10 then ((x5.2.2 : Int) == (0 : Int)) else false) then ((x5.1 : Int) == a_v) else false) == true) = true), ((bif (bif x10 then ((x5.2.2 : Int) == (0 : Int)) else false) then ((x5.1 : Int) == a_v) else false) = true → ((bif (bif x10 then ((x5.2.2 : Int) == (0 : Int)) else false) then ((x5.1 : Int) == a_v) else false) == true) = true), (((bif (bif (bif x10 then ((x5.2.2 : Int) == (0 : Int)) else false) then ((x5.1 : Int) == a_v) else false) then ((x5.2.1 : Int) == (x2.length : Int)) else false) == true) = true → ((bif (bif (bif x10 then ((x5.2.2 : Int) == (0 : Int)) else false) then ((x5.1 : Int) == a_v) else false) then ((x5.2.1 : Int) == (x2.length : Int)) else false) == true) = true), ((bif (bif (bif x10 then ((x5.2.2 : Int) == (0 : Int)) else false) then ((x5.1 : Int) == a_v) else false) then ((x5.2.1 : Int) == (x2.length : Int)) else false) = true → ((bif (bif (bif x10 then ((x5.2.2 : Int) == (0 : Int)) else false) then ((x5.1 : Int) == a_v) else false) then ((x5.2.1 : Int) == (x2.length : Int)) else false) == true) = true)]) hn mix (no_hand hΓ) (by kernel_rfl) ⟨(ok_lockstepref02_Put a_v x9 hx9), (ok_lockstepref02_Same x2 x9 x10 hx10), (fun hg => hg), (fun hp => by rw [hp]; rfl), (fun hg => hg), (fun hg => hg), (fun hp => by rw [hp]; rfl), (fun hg => hg), (fun hg => hg), (fun hg => hg), (fun hp => by rw [hp]; rfl), (fun hg => hg), (fun hp => by rw [hp]; rfl), trivial⟩ ?_
        refine then_normal ?_
        refine awp_ret ?_
        obtain rfl := Option.some.inj h
        exact ⟨.inl rfl, [], by kernel_rfl⟩

noncomputable def m_num_Row_L1 (a_list : List (Int)) : (List (Int) × Int) → Option (LR (List (Int) × Int) (List (Int) ⊕ List (Int))) :=
  fun ((l2, i3) : (List (Int) × Int)) => (bif (decide ((i3 : Int) < (a_list.length : Int))) then (chk (InB i3 a_list.length) (bif (decide (((a_list.getD (i3).toNat (0 : Int)) : Int) < (0 : Int))) then (some (.done (.inr ([] : List Int)))) else (chk (InB i3 a_list.length) ((m_num_Put (wu64 (a_list.getD (i3).toNat (0 : Int)))).bind fun x7 => (chk (l2.length + x7.length ≤ room) (some (.next ((l2 ++ x7), (w64 (i3 + (1 : Int))))))))))) else (some (.done (.inl l2))))
noncomputable def m_num_Row (a_list : List (Int)) : Option (List (Int)) :=
  ((m_num_Put (wu64 (a_list.length : Int))).bind fun x1 => ((loopO (S := (List (Int) × Int)) (X := (List (Int) ⊕ List (Int))) (m_num_Row_L1 a_list) (x1, (0 : Int))).bind (fun x9 => (match x9 with | (.inl l4) => (some l4) | (.inr r11) => (some r11)))))
theorem ok_num_Row (a_list : List (Int)) (r : List (Int)) (h : m_num_Row a_list = some r) : Spec Try.prog 13 [(AV.list 1 eI64 (0 : Int) a_list .none)] [] (AV.list 1 eU8 (0 : Int) r (.own 20000)) [(20000, .tok 1 5 r.length)] := by
  refine spec_of_awp (fn := Try.f13) Try.func13 rfl rfl (by kernel_rfl) (fun Γ hn hΓ => ?_)
  have hn : Γ.n = 29 := hn
  unfold m_num_Row at h
  refine awp_seq ?_
  refine awp_region (rs := []) (cs := [(2, (AV.list 1 eU8 (0 : Int) ([] : List Int) .exact))]) (live := [0]) (names := []) (st' := (⟨[(0, (AV.list 1 eI64 (0 : Int) a_list .none))], []⟩ : St)) (obs := [(AVle (.slice 0 0 (fun _ => []) .exact) (AV.list 1 eU8 (0 : Int) ([] : List Int) .exact))]) hn mix (no_hand hΓ) (by kernel_rfl) ⟨av_nil, trivial⟩ ?_
  refine then_normal ?_
  refine awp_seq ?_
  obtain ⟨x1, hx1, h⟩ := bind_some h
  refine awp_region (rs := [⟨[], [(20000, 8)], (AV.list 1 eU8 (0 : Int) x1 (.own 20000)), [(20000, .tok 1 5 x1.length)]⟩]) (cs := []) (live := [0, 3]) (names := [8]) (st' := (⟨[(0, (AV.list 1 eI64 (0 : Int) a_list .none)), (3, (AV.list 1 eU8 (0 : Int) x1 (.own 8)))], [(8, .tok 1 5 x1.length)]⟩ : St)) (obs := [(Spec Try.prog 9 [(.int .u64 (wu64 (a_list.length : Int)))] [] (AV.list 1 eU8 (0 : Int) x1 (.own 20000)) [(20000, .tok 1 5 x1.length)])]) hn mix (no_hand hΓ) (by kernel_rfl) ⟨(ok_num_Put (wu64 (a_list.length : Int)) x1 hx1), trivial⟩ ?_
  refine then_normal ?_
  refine awp_seq ?_
  refine awp_seq ?_
  refine awp_region (rs := []) (cs := []) (live := [0, 3, 10, 11]) (names := [8]) (st' := (⟨[(0, (AV.list 1 eI64 (0 : Int) a_list .none)), (3, (AV.list 1 eU8 (0 : Int) x1 (.own 8))), (10, (.int .i64 (a_list.length : Int))), (11, (.int .i64 (0 : Int)))], [(8, .tok 1 5 x1.length)]⟩ : St)) (obs := []) hn mix (no_hand hΓ) (by kernel_rfl) trivial ?_
  refine then_normal ?_
  refine awp_block ?_
  refine awp_le (st' := (fun ((l2, i3) : (List (Int) × Int)) => (⟨[(0, (AV.list 1 eI64 (0 : Int) a_list .none)), (3, (AV.list 1 eU8 (0 : Int) l2 (.own 8))), (10, (.int .i64 (a_list.length : Int))), (11, (.int .i64 i3))], [(8, .tok 1 5 l2.length)]⟩ : St)) (x1, (0 : Int))) (Le.refl _ _) ?_
  obtain ⟨x9, hx9, h⟩ := bind_some h
  refine awp_loop (fun ((l2, i3) : (List (Int) × Int)) => (⟨[(0, (AV.list 1 eI64 (0 : Int) a_list .none)), (3, (AV.list 1 eU8 (0 : Int) l2 (.own 8))), (10, (.int .i64 (a_list.length : Int))), (11, (.int .i64 i3))], [(8, .tok 1 5 l2.length)]⟩ : St)) _ (fun (x_ : (List (Int) ⊕ List (Int))) (e : Exit) (st : St) => match x_ with | (.inl l4) => e = (.exit 0) ∧ Le Γ st (⟨[(3, (AV.list 1 eU8 (0 : Int) l4 (.own 8)))], [(8, .tok 1 5 l4.length)]⟩ : St) | (.inr r_) => e = .ret ∧ retK Try.prog Try.f13.results.toList [] (AV.list 1 eU8 (0 : Int) r_ (.own 20000)) [(20000, .tok 1 5 r_.length)] e st) ?_ hx9 ?_
  · rintro ⟨l2, i3⟩ y h
    unfold m_num_Row_L1 at h
    refine awp_seq ?_
    refine awp_region (rs := []) (cs := []) (live := [0, 3, 10, 11, 12]) (names := [8]) (st' := (⟨[(0, (AV.list 1 eI64 (0 : Int) a_list .none)), (3, (AV.list 1 eU8 (0 : Int) l2 (.own 8))), (10, (.int .i64 (a_list.length : Int))), (11, (.int .i64 i3)), (12, (.bool (decide ((i3 : Int) < (a_list.length : Int)))))], [(8, .tok 1 5 l2.length)]⟩ : St)) (obs := []) hn mix (no_hand hΓ) (by kernel_rfl) trivial ?_
    refine then_normal ?_
    refine awp_seq ?_
    refine awp_cond (decide ((i3 : Int) < (a_list.length : Int))) (by kernel_rfl) (fun hb => ?_) (fun hb => ?_)
    · replace h := cond_t hb h
      clear hb
      refine awp_skip ?_
      refine then_normal ?_
      refine awp_seq ?_
      refine awp_block ?_
      refine awp_seq ?_
      refine awp_region (rs := []) (cs := []) (live := [0, 3, 4, 10, 11]) (names := [8]) (st' := (⟨[(0, (AV.list 1 eI64 (0 : Int) a_list .none)), (3, (AV.list 1 eU8 (0 : Int) l2 (.own 8))), (4, (.int .i64 i3)), (10, (.int .i64 (a_list.length : Int))), (11, (.int .i64 i3))], [(8, .tok 1 5 l2.length)]⟩ : St)) (obs := []) hn mix (no_hand hΓ) (by kernel_rfl) trivial ?_
      refine then_normal ?_
      refine awp_seq ?_
      refine awp_seq ?_
      obtain ⟨hc5, h⟩ := chk_some h
      refine awp_region (rs := []) (cs := []) (live := [0, 3, 4, 10, 11, 18]) (names := [8]) (st' := (⟨[(0, (AV.list 1 eI64 (0 : Int) a_list .none)), (3, (AV.list 1 eU8 (0 : Int) l2 (.own 8))), (4, (.int .i64 i3)), (10, (.int .i64 (a_list.length : Int))), (11, (.int .i64 i3)), (18, (.bool (decide (((a_list.getD (i3).toNat (0 : Int)) : Int) < (0 : Int)))))], [(8, .tok 1 5 l2.length)]⟩ : St)) (obs := [(InB i3 a_list.length)]) hn mix (no_hand hΓ) (by kernel_rfl) ⟨hc5, trivial⟩ ?_
      refine then_normal ?_
      refine awp_cond (decide (((a_list.getD (i3).toNat (0 : Int)) : Int) < (0 : Int))) (by kernel_rfl) (fun hb => ?_) (fun hb => ?_)
      · replace h := cond_t hb h
        clear hb
        refine awp_seq ?_
        refine awp_region (rs := []) (cs := [(2, (AV.list 1 eU8 (0 : Int) ([] : List Int) .exact))]) (live := [2]) (names := []) (st' := (⟨[(2, (AV.list 1 eU8 (0 : Int) ([] : List Int) .exact))], []⟩ : St)) (obs := [(AVle (.slice 0 0 (fun _ => []) .exact) (AV.list 1 eU8 (0 : Int) ([] : List Int) .exact))]) hn mix (no_hand hΓ) (by kernel_rfl) ⟨av_nil, trivial⟩ ?_
        refine then_normal ?_
        refine awp_le (st' := (⟨[(2, (AV.list 1 eU8 (0 : Int) ([] : List Int) (.own 6002)))], [(6002, .tok 1 5 (([] : List Int).length))]⟩ : St)) (Le.trans (le_restrict_eq (st' := (⟨[(2, (AV.list 1 eU8 (0 : Int) ([] : List Int) .exact))], []⟩ : St)) [2] [] (by kernel_rfl) (no_hand hΓ)) (Le.trans (le_tag (t := 2) (nm := 6002) (sz' := 1) (fun i => eU8 (([] : List Int).getD i (0 : Int))) 5 rfl rfl (.inl ⟨rfl, rfl⟩)) (le_eq (st' := (⟨[(2, (AV.list 1 eU8 (0 : Int) ([] : List Int) (.own 6002)))], [(6002, .tok 1 5 (([] : List Int).length))]⟩ : St)) (by kernel_rfl)))) ?_
        refine awp_ret ?_
        refine then_ret ?_
        refine block_ret ?_
        refine then_ret ?_
        obtain rfl := Option.some.inj h
        exact ⟨(by intro hh; cases hh), rfl, ⟨.inl rfl, [(6002, 20000)], by kernel_rfl⟩⟩
      · replace h := cond_f hb h
        clear hb
        refine awp_skip ?_
        refine then_normal ?_
        obtain ⟨hc6, h⟩ := chk_some h
        obtain ⟨x7, hx7, h⟩ := bind_some h
        obtain ⟨hc8, h⟩ := chk_some h
        refine awp_region (rs := [⟨[], [(20000, 25)], (AV.list 1 eU8 (0 : Int) x7 (.own 20000)), [(20000, .tok 1 5 x7.length)]⟩]) (cs := [(26, (AV.list 1 eU8 (0 : Int) (l2 ++ x7) (.own 8)))]) (live := [0, 3, 10, 11]) (names := [8]) (st' := (⟨[(0, (AV.list 1 eI64 (0 : Int) a_list .none)), (3, (AV.list 1 eU8 (0 : Int) (l2 ++ x7) (.own 8))), (10, (.int .i64 (a_list.length : Int))), (11, (.int .i64 i3))], [(8, .tok 1 5 ((l2 ++ x7).length))]⟩ : St)) (obs := [(InB i3 a_list.length), (Spec Try.prog 9 [(.int .u64 (wu64 (a_list.getD (i3).toNat (0 : Int))))] [] (AV.list 1 eU8 (0 : Int) x7 (.own 20000)) [(20000, .tok 1 5 x7.length)]), (l2.length = l2.length), (l2.length + x7.length ≤ room), (AVle (.slice 1 (l2.length + x7.length) (appF l2.length (fun i => eU8 (l2.getD i (0 : Int))) (fun i => eU8 (x7.getD i (0 : Int)))) (.own 8)) (AV.list 1 eU8 (0 : Int) (l2 ++ x7) (.own 8))), (l2.length + x7.length = (l2 ++ x7).length)]) hn mix (no_hand hΓ) (by kernel_rfl) ⟨hc6, (ok_num_Put (wu64 (a_list.getD (i3).toNat (0 : Int))) x7 hx7), rfl, hc8, av_app, (len_app _ _), trivial⟩ ?_
        refine block_normal ?_
        refine then_normal ?_
        refine awp_region (rs := []) (cs := []) (live := [0, 3, 10, 11]) (names := [8]) (st' := (⟨[(0, (AV.list 1 eI64 (0 : Int) a_list .none)), (3, (AV.list 1 eU8 (0 : Int) (l2 ++ x7) (.own 8))), (10, (.int .i64 (a_list.length : Int))), (11, (.int .i64 (w64 (i3 + (1 : Int)))))], [(8, .tok 1 5 ((l2 ++ x7).length))]⟩ : St)) (obs := []) hn mix (no_hand hΓ) (by kernel_rfl) trivial ?_
        obtain rfl := Option.some.inj h
        exact ⟨rfl, Le.refl _ _⟩
    · replace h := cond_f hb h
      clear hb
      refine awp_exit ?_
      refine then_exit ?_
      obtain rfl := Option.some.inj h
      exact ⟨(by intro hh; cases hh), rfl, le_restrict_eq [3] [8] (by kernel_rfl) (no_hand hΓ)⟩
  · clear hx9
    rcases x9 with l4 | r11
    · rintro e st' ⟨rfl, hl10⟩
      refine block_here ?_
      refine then_normal ?_
      refine awp_le hl10 ?_
      refine awp_seq ?_
      refine awp_region (rs := []) (cs := []) (live := [2]) (names := [8]) (st' := (⟨[(2, (AV.list 1 eU8 (0 : Int) l4 (.own 8)))], [(8, .tok 1 5 l4.length)]⟩ : St)) (obs := []) hn mix (no_hand hΓ) (by kernel_rfl) trivial ?_
      refine then_normal ?_
      refine awp_ret ?_
      obtain rfl := Option.some.inj h
      exact ⟨.inl rfl, [(8, 20000)], by kernel_rfl⟩
    · rintro e st' ⟨rfl, hk⟩
      refine block_ret ?_
      refine then_ret ?_
      obtain rfl := Option.some.inj h
      exact hk

noncomputable def m_lockstepref02_Row_L1 (a_l : List (Int)) : (List (Int) × Int) → Option (LR (List (Int) × Int) (List (Int) ⊕ List (Int))) :=
  fun ((l2, i3) : (List (Int) × Int)) => (bif (decide ((i3 : Int) < (a_l.length : Int))) then (chk (InB i3 a_l.length) (bif (decide (((a_l.getD (i3).toNat (0 : Int)) : Int) < (0 : Int))) then (some (.done (.inr ([] : List Int)))) else (chk (InB i3 a_l.length) ((m_lockstepref02_Put (wu64 (a_l.getD (i3).toNat (0 : Int)))).bind fun x7 => (chk (l2.length + x7.length ≤ room) (some (.next ((l2 ++ x7), (w64 (i3 + (1 : Int))))))))))) else (some (.done (.inl l2))))
noncomputable def m_lockstepref02_Row (a_l : List (Int)) : Option (List (Int)) :=
  ((m_lockstepref02_Put (wu64 (a_l.length : Int))).bind fun x1 => ((loopO (S := (List (Int) × Int)) (X := (List (Int) ⊕ List (Int))) (m_lockstepref02_Row_L1 a_l) (x1, (0 : Int))).bind (fun x9 => (match x9 with | (.inl l4) => (some l4) | (.inr r11) => (some r11)))))
theorem ok_lockstepref02_Row (a_l : List (Int)) (r : List (Int)) (h : m_lockstepref02_Row a_l = some r) : Spec Try.prog 14 [(AV.list 1 eI64 (0 : Int) a_l .none)] [] (AV.list 1 eU8 (0 : Int) r (.own 20000)) [(20000, .tok 1 5 r.length)] := by
  refine spec_of_awp (fn := Try.f14) Try.func14 rfl rfl (by kernel_rfl) (fun Γ hn hΓ => ?_)
  have hn : Γ.n = 29 := hn
  unfold m_lockstepref02_Row at h
  refine awp_seq ?_
  refine awp_region (rs := []) (cs := [(2, (AV.list 1 eU8 (0 : Int) ([] : List Int) .exact))]) (live := [0]) (names := []) (st' := (⟨[(0, (AV.list 1 eI64 (0 : Int) a_l .none))], []⟩ : St)) (obs := [(AVle (.slice 0 0 (fun _ => []) .exact) (AV.list 1 eU8 (0 : Int) ([] : List Int) .exact))]) hn mix (no_hand hΓ) (by kernel_rfl) ⟨av_nil, trivial⟩ ?_
  refine then_normal ?_
  refine awp_seq ?_
  obtain ⟨x1, hx1, h⟩ := bind_some h
  refine awp_region (rs := [⟨[], [(20000, 8)], (AV.list 1 eU8 (0 : Int) x1 (.own 20000)), [(20000, .tok 1 5 x1.length)]⟩]) (cs := []) (live := [0, 3]) (names := [8]) (st' := (⟨[(0, (AV.list 1 eI64 (0 : Int) a_l .none)), (3, (AV.list 1 eU8 (0 : Int) x1 (.own 8)))], [(8, .tok 1 5 x1.length)]⟩ : St)) (obs := [(Spec Try.prog 12 [(.int .u64 (wu64 (a_l.length : Int)))] [] (AV.list 1 eU8 (0 : Int) x1 (.own 20000)) [(20000, .tok 1 5 x1.length)])]) hn mix (no_hand hΓ) (by kernel_rfl) ⟨(ok_lockstepref02_Put (wu64 (a_l.length : Int)) x1 hx1), trivial⟩ ?_
  refine then_normal ?_
  refine awp_seq ?_
  refine awp_seq ?_
  refine awp_region (rs := []) (cs := []) (live := [0, 3, 4]) (names := [8]) (st' := (⟨[(0, (AV.list 1 eI64 (0 : Int) a_l .none)), (3, (AV.list 1 eU8 (0 : Int) x1 (.own 8))), (4, (.int .i64 (0 : Int)))], [(8, .tok 1 5 x1.length)]⟩ : St)) (obs := []) hn mix (no_hand hΓ) (by kernel_rfl) trivial ?_
  refine then_normal ?_
  refine awp_block ?_
  refine awp_le (st' := (fun ((l2, i3) : (List (Int) × Int)) => (⟨[(0, (AV.list 1 eI64 (0 : Int) a_l .none)), (3, (AV.list 1 eU8 (0 : Int) l2 (.own 8))), (4, (.int .i64 i3))], [(8, .tok 1 5 l2.length)]⟩ : St)) (x1, (0 : Int))) (Le.refl _ _) ?_
  obtain ⟨x9, hx9, h⟩ := bind_some h
  refine awp_loop (fun ((l2, i3) : (List (Int) × Int)) => (⟨[(0, (AV.list 1 eI64 (0 : Int) a_l .none)), (3, (AV.list 1 eU8 (0 : Int) l2 (.own 8))), (4, (.int .i64 i3))], [(8, .tok 1 5 l2.length)]⟩ : St)) _ (fun (x_ : (List (Int) ⊕ List (Int))) (e : Exit) (st : St) => match x_ with | (.inl l4) => e = (.exit 0) ∧ Le Γ st (⟨[(3, (AV.list 1 eU8 (0 : Int) l4 (.own 8)))], [(8, .tok 1 5 l4.length)]⟩ : St) | (.inr r_) => e = .ret ∧ retK Try.prog Try.f14.results.toList [] (AV.list 1 eU8 (0 : Int) r_ (.own 20000)) [(20000, .tok 1 5 r_.length)] e st) ?_ hx9 ?_
  · rintro ⟨l2, i3⟩ y h
    unfold m_lockstepref02_Row_L1 at h
    refine awp_seq ?_
    refine awp_seq ?_
    refine awp_region (rs := []) (cs := []) (live := [0, 3, 4, 12]) (names := [8]) (st' := (⟨[(0, (AV.list 1 eI64 (0 : Int) a_l .none)), (3, (AV.list 1 eU8 (0 : Int) l2 (.own 8))), (4, (.int .i64 i3)), (12, (.bool (decide ((i3 : Int) < (a_l.length : Int)))))], [(8, .tok 1 5 l2.length)]⟩ : St)) (obs := []) hn mix (no_hand hΓ) (by kernel_rfl) trivial ?_
    refine then_normal ?_
    refine awp_cond (decide ((i3 : Int) < (a_l.length : Int))) (by kernel_rfl) (fun hb => ?_) (fun hb => ?_)
    · replace h := cond_t hb h
      clear hb
      refine awp_skip ?_
      refine then_normal ?_
      refine awp_seq ?_
      refine awp_block ?_
      refine awp_seq ?_
      refine awp_seq ?_
      obtain ⟨hc5, h⟩ := chk_some h
      refine awp_region (rs := []) (cs := []) (live := [0, 3, 4, 19]) (names := [8]) (st' := (⟨[(0, (AV.list 1 eI64 (0 : Int) a_l .none)), (3, (AV.list 1 eU8 (0 : Int) l2 (.own 8))), (4, (.int .i64 i3)), (19, (.bool (decide (((a_l.getD (i3).toNat (0 : Int)) : Int) < (0 : Int)))))], [(8, .tok 1 5 l2.length)]⟩ : St)) (obs := [(InB i3 a_l.length)]) hn mix (no_hand hΓ) (by kernel_rfl) ⟨hc5, trivial⟩ ?_
      refine then_normal ?_
      refine awp_cond (decide (((a_l.getD (i3).toNat (0 : Int)) : Int) < (0 : Int))) (by kernel_rfl) (fun hb => ?_) (fun hb => ?_)
      · replace h := cond_t hb h
        clear hb
        refine awp_seq ?_
        refine awp_region (rs := []) (cs := [(2, (AV.list 1 eU8 (0 : Int) ([] : List Int) .exact))]) (live := [2]) (names := []) (st' := (⟨[(2, (AV.list 1 eU8 (0 : Int) ([] : List Int) .exact))], []⟩ : St)) (obs := [(AVle (.slice 0 0 (fun _ => []) .exact) (AV.list 1 eU8 (0 : Int) ([] : List Int) .exact))]) hn mix (no_hand hΓ) (by kernel_rfl) ⟨av_nil, trivial⟩ ?_
        refine then_normal ?_
        refine awp_le (st' := (⟨[(2, (AV.list 1 eU8 (0 : Int) ([] : List Int) (.own 6002)))], [(6002, .tok 1 5 (([] : List Int).length))]⟩ : St)) (Le.trans (le_restrict_eq (st' := (⟨[(2, (AV.list 1 eU8 (0 : Int) ([] : List Int) .exact))], []⟩ : St)) [2] [] (by kernel_rfl) (no_hand hΓ)) (Le.trans (le_tag (t := 2) (nm := 6002) (sz' := 1) (fun i => eU8 (([] : List Int).getD i (0 : Int))) 5 rfl rfl (.inl ⟨rfl, rfl⟩)) (le_eq (st' := (⟨[(2, (AV.list 1 eU8 (0 : Int) ([] : List Int) (.own 6002)))], [(6002, .tok 1 5 (([] : List Int).length))]⟩ : St)) (by kernel_rfl)))) ?_
        refine awp_ret ?_
        refine then_ret ?_
        refine block_ret ?_
        refine then_ret ?_
        obtain rfl := Option.some.inj h
        exact ⟨(by intro hh; cases hh), rfl, ⟨.inl rfl, [(6002, 20000)], by kernel_rfl⟩⟩
      · replace h := cond_f hb h
        clear hb
        refine awp_skip ?_
        refine then_normal ?_
        obtain ⟨hc6, h⟩ := chk_some h
        obtain ⟨x7, hx7, h⟩ := bind_some h
        obtain ⟨hc8, h⟩ := chk_some h
        refine awp_region (rs := [⟨[], [(20000, 26)], (AV.list 1 eU8 (0 : Int) x7 (.own 20000)), [(20000, .tok 1 5 x7.length)]⟩]) (cs := [(27, (AV.list 1 eU8 (0 : Int) (l2 ++ x7) (.own 8)))]) (live := [0, 3, 4]) (names := [8]) (st' := (⟨[(0, (AV.list 1 eI64 (0 : Int) a_l .none)), (3, (AV.list 1 eU8 (0 : Int) (l2 ++ x7) (.own 8))), (4, (.int .i64 i3))], [(8, .tok 1 5 ((l2 ++ x7).length))]⟩ : St)) (obs := [(InB i3 a_l.length), (Spec Try.prog 12 [(.int .u64 (wu64 (a_l.getD (i3).toNat (0 : Int))))] [] (AV.list 1 eU8 (0 : Int) x7 (.own 20000)) [(20000, .tok 1 5 x7.length)]), (l2.length = l2.length), (l2.length + x7.length ≤ room), (AVle (.slice 1 (l2.length + x7.length) (appF l2.length (fun i => eU8 (l2.getD i (0 : Int))) (fun i => eU8 (x7.getD i (0 : Int)))) (.own 8)) (AV.list 1 eU8 (0 : Int) (l2 ++ x7) (.own 8))), (l2.length + x7.length = (l2 ++ x7).length)]) hn mix (no_hand hΓ) (by kernel_rfl) ⟨hc6, (ok_lockstepref02_Put (wu64 (a_l.getD (i3).toNat (0 : Int))) x7 hx7), rfl, hc8, av_app, (len_app _ _), trivial⟩ ?_
        refine block_normal ?_
        refine then_normal ?_
        refine awp_region (rs := []) (cs := []) (live := [0, 3, 4]) (names := [8]) (st' := (⟨[(0, (AV.list 1 eI64 (0 : Int) a_l .none)), (3, (AV.list 1 eU8 (0 : Int) (l2 ++ x7) (.own 8))), (4, (.int .i64 (w64 (i3 + (1 : Int)))))], [(8, .tok 1 5 ((l2 ++ x7).length))]⟩ : St)) (obs := []) hn mix (no_hand hΓ) (by kernel_rfl) trivial ?_
        obtain rfl := Option.some.inj h
        exact ⟨rfl, Le.refl _ _⟩
    · replace h := cond_f hb h
      clear hb
      refine awp_exit ?_
      refine then_exit ?_
      obtain rfl := Option.some.inj h
      exact ⟨(by intro hh; cases hh), rfl, le_restrict_eq [3] [8] (by kernel_rfl) (no_hand hΓ)⟩
  · clear hx9
    rcases x9 with l4 | r11
    · rintro e st' ⟨rfl, hl10⟩
      refine block_here ?_
      refine then_normal ?_
      refine awp_le hl10 ?_
      refine awp_seq ?_
      refine awp_region (rs := []) (cs := []) (live := [2]) (names := [8]) (st' := (⟨[(2, (AV.list 1 eU8 (0 : Int) l4 (.own 8)))], [(8, .tok 1 5 l4.length)]⟩ : St)) (obs := []) hn mix (no_hand hΓ) (by kernel_rfl) trivial ?_
      refine then_normal ?_
      refine awp_ret ?_
      obtain rfl := Option.some.inj h
      exact ⟨.inl rfl, [(8, 20000)], by kernel_rfl⟩
    · rintro e st' ⟨rfl, hk⟩
      refine block_ret ?_
      refine then_ret ?_
      obtain rfl := Option.some.inj h
      exact hk

noncomputable def m_lockstepref02_Ints_L1 (a_a : List (Int)) (a_b : List (Int)) : Int → Option (LR Int (Unit ⊕ Bool)) :=
  fun (i1 : Int) => (bif (decide ((i1 : Int) < (a_a.length : Int))) then (chk (InB i1 a_a.length) (chk (InB i1 a_b.length) (bif (((a_a.getD (i1).toNat (0 : Int)) : Int) != (a_b.getD (i1).toNat (0 : Int))) then (some (.done (.inr false))) else (some (.next (w64 (i1 + (1 : Int)))))))) else (some (.done (.inl ()))))
noncomputable def m_lockstepref02_Ints (a_a : List (Int)) (a_b : List (Int)) : Option Bool :=
  (bif (((a_a.length : Int) : Int) != (a_b.length : Int)) then (some false) else ((loopO (S := Int) (X := (Unit ⊕ Bool)) (m_lockstepref02_Ints_L1 a_a a_b) (0 : Int)).bind (fun x4 => (match x4 with | (.inl _) => (some true) | (.inr r6) => (some r6)))))
theorem ok_lockstepref02_Ints (a_a : List (Int)) (a_b : List (Int)) (r : Bool) (h : m_lockstepref02_Ints a_a a_b = some r) : Spec Try.prog 16 [(AV.list 1 eI64 (0 : Int) a_a .none), (AV.list 1 eI64 (0 : Int) a_b .none)] [] (.bool r) [] := by
  refine spec_of_awp (fn := Try.f16) Try.func16 rfl rfl (by kernel_rfl) (fun Γ hn hΓ => ?_)
  have hn : Γ.n = 26 := hn
  unfold m_lockstepref02_Ints at h
  refine awp_seq ?_
  refine awp_region (rs := []) (cs := []) (live := [0, 1]) (names := []) (st' := (⟨[(0, (AV.list 1 eI64 (0 : Int) a_a .none)), (1, (AV.list 1 eI64 (0 : Int) a_b .none))], []⟩ : St)) (obs := []) hn mix (no_hand hΓ) (by kernel_rfl) trivial ?_
  refine then_normal ?_
  refine awp_seq ?_
  refine awp_seq ?_
  refine awp_region (rs := []) (cs := []) (live := [0, 1, 10]) (names := []) (st' := (⟨[(0, (AV.list 1 eI64 (0 : Int) a_a .none)), (1, (AV.list 1 eI64 (0 : Int) a_b .none)), (10, (.bool (((a_a.length : Int) : Int) != (a_b.length : Int))))], []⟩ : St)) (obs := []) hn mix (no_hand hΓ) (by kernel_rfl) trivial ?_
  refine then_normal ?_
  refine awp_cond (((a_a.length : Int) : Int) != (a_b.length : Int)) (by kernel_rfl) (fun hb => ?_) (fun hb => ?_)
  · replace h := cond_t hb h
    clear hb
    refine awp_seq ?_
    refine awp_region (rs := []) (cs := []) (live := [4]) (names := []) (st' := (⟨[(4, (.bool false))], []⟩ : St)) (obs := []) hn mix (no_hand hΓ) (by kernel_rfl) trivial ?_
    refine then_normal ?_
    refine awp_ret ?_
    refine then_ret ?_
    obtain rfl := Option.some.inj h
    exact ⟨.inl rfl, [], by kernel_rfl⟩
  · replace h := cond_f hb h
    clear hb
    refine awp_skip ?_
    refine then_normal ?_
    refine awp_seq ?_
    refine awp_seq ?_
    refine awp_region (rs := []) (cs := []) (live := [0, 1, 5]) (names := []) (st' := (⟨[(0, (AV.list 1 eI64 (0 : Int) a_a .none)), (1, (AV.list 1 eI64 (0 : Int) a_b .none)), (5, (.int .i64 (0 : Int)))], []⟩ : St)) (obs := []) hn mix (no_hand hΓ) (by kernel_rfl) trivial ?_
    refine then_normal ?_
    refine awp_block ?_
    refine awp_le (st' := (fun (i1 : Int) => (⟨[(0, (AV.list 1 eI64 (0 : Int) a_a .none)), (1, (AV.list 1 eI64 (0 : Int) a_b .none)), (5, (.int .i64 i1))], []⟩ : St)) (0 : Int)) (Le.refl _ _) ?_
    obtain ⟨x4, hx4, h⟩ := bind_some h
    refine awp_loop (fun (i1 : Int) => (⟨[(0, (AV.list 1 eI64 (0 : Int) a_a .none)), (1, (AV.list 1 eI64 (0 : Int) a_b .none)), (5, (.int .i64 i1))], []⟩ : St)) _ (fun (x_ : (Unit ⊕ Bool)) (e : Exit) (st : St) => match x_ with | (.inl _) => e = (.exit 0) ∧ Le Γ st (⟨[], []⟩ : St) | (.inr r_) => e = .ret ∧ retK Try.prog Try.f16.results.toList [] (.bool r_) [] e st) ?_ hx4 ?_
    · intro i1 y h
      unfold m_lockstepref02_Ints_L1 at h
      refine awp_seq ?_
      refine awp_seq ?_
      refine awp_region (rs := []) (cs := []) (live := [0, 1, 5, 14]) (names := []) (st' := (⟨[(0, (AV.list 1 eI64 (0 : Int) a_a .none)), (1, (AV.list 1 eI64 (0 : Int) a_b .none)), (5, (.int .i64 i1)), (14, (.bool (decide ((i1 : Int) < (a_a.length : Int)))))], []⟩ : St)) (obs := []) hn mix (no_hand hΓ) (by kernel_rfl) trivial ?_
      refine then_normal ?_
      refine awp_cond (decide ((i1 : Int) < (a_a.length : Int))) (by kernel_rfl) (fun hb => ?_) (fun hb => ?_)
      · replace h := cond_t hb h
        clear hb
        refine awp_skip ?_
        refine then_normal ?_
        refine awp_seq ?_
        refine awp_block ?_
        refine awp_seq ?_
        obtain ⟨hc2, h⟩ := chk_some h
        obtain ⟨hc3, h⟩ := chk_some h
        refine awp_region (rs := []) (cs := []) (live := [0, 1, 5, 25]) (names := []) (st' := (⟨[(0, (AV.list 1 eI64 (0 : Int) a_a .none)), (1, (AV.list 1 eI64 (0 : Int) a_b .none)), (5, (.int .i64 i1)), (25, (.bool (((a_a.getD (i1).toNat (0 : Int)) : Int) != (a_b.getD (i1).toNat (0 : Int)))))], []⟩ : St)) (obs := [(InB i1 a_a.length), (InB i1 a_b.length)]) hn mix (no_hand hΓ) (by kernel_rfl) ⟨hc2, hc3, trivial⟩ ?_
        refine then_normal ?_
        refine awp_cond (((a_a.getD (i1).toNat (0 : Int)) : Int) != (a_b.getD (i1).toNat (0 : Int))) (by kernel_rfl) (fun hb => ?_) (fun hb => ?_)
        · replace h := cond_t hb h
          clear hb
          refine awp_seq ?_
          refine awp_region (rs := []) (cs := []) (live := [4]) (names := []) (st' := (⟨[(4, (.bool false))], []⟩ : St)) (obs := []) hn mix (no_hand hΓ) (by kernel_rfl) trivial ?_
          refine then_normal ?_
          refine awp_ret ?_
          refine block_ret ?_
          refine then_ret ?_
          obtain rfl := Option.some.inj h
          exact ⟨(by intro hh; cases hh), rfl, ⟨.inl rfl, [], by kernel_rfl⟩⟩
        · replace h := cond_f hb h
          clear hb
          refine awp_skip ?_
          refine block_normal ?_
          refine then_normal ?_
          refine awp_region (rs := []) (cs := []) (live := [0, 1, 5]) (names := []) (st' := (⟨[(0, (AV.list 1 eI64 (0 : Int) a_a .none)), (1, (AV.list 1 eI64 (0 : Int) a_b .none)), (5, (.int .i64 (w64 (i1 + (1 : Int)))))], []⟩ : St)) (obs := []) hn mix (no_hand hΓ) (by kernel_rfl) trivial ?_
          obtain rfl := Option.some.inj h
          exact ⟨rfl, Le.refl _ _⟩
      · replace h := cond_f hb h
        clear hb
        refine awp_exit ?_
        refine then_exit ?_
        obtain rfl := Option.some.inj h
        exact ⟨(by intro hh; cases hh), rfl, le_restrict_eq [] [] (by kernel_rfl) (no_hand hΓ)⟩
    · clear hx4
      rcases x4 with _ | r6
      · rintro e st' ⟨rfl, hl5⟩
        refine block_here ?_
        refine then_normal ?_
        refine awp_le hl5 ?_
        refine awp_seq ?_
        refine awp_region (rs := []) (cs := []) (live := [4]) (names := []) (st' := (⟨[(4, (.bool true))], []⟩ : St)) (obs := []) hn mix (no_hand hΓ) (by kernel_rfl) trivial ?_
        refine then_normal ?_
        refine awp_ret ?_
        obtain rfl := Option.some.inj h
        exact ⟨.inl rfl, [], by kernel_rfl⟩
      · rintro e st' ⟨rfl, hk⟩
        refine block_ret ?_
        refine then_ret ?_
        obtain rfl := Option.some.inj h
        exact hk

noncomputable def m_locksteplaw02_NumRows_L1 (a_l : List (Int)) (x2 : List (Int)) : (Bool × Int) → Option (LR (Bool × Int) (Bool ⊕ Bool)) :=
  fun ((b5, i6) : (Bool × Int)) => (bif (decide ((i6 : Int) < (a_l.length : Int))) then (chk (InB i6 a_l.length) (bif (decide (((a_l.getD (i6).toNat (0 : Int)) : Int) < (0 : Int))) then (some (.done (.inr (((x2.length : Int) : Int) == (0 : Int))))) else (chk ((b5 == false) = true → (InB i6 a_l.length)) (some (.next ((bif b5 then true else (decide (((2147483647 : Int) : Int) < (a_l.getD (i6).toNat (0 : Int))))), (w64 (i6 + (1 : Int))))))))) else (some (.done (.inl b5))))
noncomputable def m_locksteplaw02_NumRows (a_l : List (Int)) (a_p1 : List (Int)) : Option Bool :=
  ((m_locksteplaw02_awake).bind fun x1 => (bif (!x1) then (some false) else (bif (bif (decide (((500 : Int) : Int) < (a_l.length : Int))) then true else (decide (((1000 : Int) : Int) < (a_p1.length : Int)))) then (some true) else ((m_num_Row a_l).bind fun x2 => ((m_lockstepref02_Row a_l).bind fun x3 => ((m_lockstepref02_Same x2 x3).bind fun x4 => (bif (!x4) then (some false) else ((loopO (S := (Bool × Int)) (X := (Bool ⊕ Bool)) (m_locksteplaw02_NumRows_L1 a_l x2) (false, (0 : Int))).bind (fun x10 => (match x10 with | (.inl b7) => (chk (([] : List Int).length + x2.length ≤ room) (chk ((([] : List Int) ++ x2).length + a_p1.length ≤ room) ((m_num_List ((([] : List Int) ++ x2) ++ a_p1) (a_l.length : Int)).bind fun x14 => (bif b7 then (some ((x14.2.2 : Int) == (4 : Int))) else ((m_num_List x2 (w64 ((a_l.length : Int) - (1 : Int)))).bind fun x15 => ((bif ((bif ((x14.2.2 : Int) == (0 : Int)) then ((x14.2.1 : Int) == (x2.length : Int)) else false) == true) then m_lockstepref02_Ints x14.1 a_l else some (false)).bind fun x16 => (some (bif (bif (bif ((x14.2.2 : Int) == (0 : Int)) then ((x14.2.1 : Int) == (x2.length : Int)) else false) then x16 else false) then ((x15.2.2 : Int) == (4 : Int)) else false)))))))) | (.inr r17) => (some r17)))))))))))
theorem ok_locksteplaw02_NumRows (a_l : List (Int)) (a_p1 : List (Int)) (r : Bool) (h : m_locksteplaw02_NumRows a_l a_p1 = some r) : Spec Try.prog 4 [(AV.list 1 eI64 (0 : Int) a_l .none), (AV.list 1 eU8 (0 : Int) a_p1 .none)] [] (.bool r) [] := by
  refine spec_of_awp (fn := Try.f4) Try.func4 rfl rfl (by kernel_rfl) (fun Γ hn hΓ => ?_)
  have hn : Γ.n = 94 := hn
  unfold m_locksteplaw02_NumRows at h
  refine awp_seq ?_
  refine awp_region (rs := []) (cs := []) (live := [0, 1]) (names := []) (st' := (⟨[(0, (AV.list 1 eI64 (0 : Int) a_l .none)), (1, (AV.list 1 eU8 (0 : Int) a_p1 .none))], []⟩ : St)) (obs := []) hn mix (no_hand hΓ) (by kernel_rfl) trivial ?_
  refine then_normal ?_
  refine awp_seq ?_
  refine awp_seq ?_
  obtain ⟨x1, hx1, h⟩ := bind_some h
  refine awp_region (rs := [⟨[], [], (.bool x1), []⟩]) (cs := []) (live := [0, 1, 15]) (names := []) (st' := (⟨[(0, (AV.list 1 eI64 (0 : Int) a_l .none)), (1, (AV.list 1 eU8 (0 : Int) a_p1 .none)), (15, (.bool (!x1)))], []⟩ : St)) (obs := [(Spec Try.prog 8 [] [] (.bool x1) [])]) hn mix (no_hand hΓ) (by kernel_rfl) ⟨(ok_locksteplaw02_awake  x1 hx1), trivial⟩ ?_
  refine then_normal ?_
  refine awp_cond (!x1) (by kernel_rfl) (fun hb => ?_) (fun hb => ?_)
  · replace h := cond_t hb h
    clear hb
    refine awp_seq ?_
    refine awp_region (rs := []) (cs := []) (live := [4]) (names := []) (st' := (⟨[(4, (.bool false))], []⟩ : St)) (obs := []) hn mix (no_hand hΓ) (by kernel_rfl) trivial ?_
    refine then_normal ?_
    refine awp_ret ?_
    refine then_ret ?_
    obtain rfl := Option.some.inj h
    exact ⟨.inl rfl, [], by kernel_rfl⟩
  · replace h := cond_f hb h
    clear hb
    refine awp_skip ?_
    refine then_normal ?_
    refine awp_seq ?_
    refine awp_seq ?_
    refine awp_region (rs := []) (cs := []) (live := [0, 1, 23]) (names := []) (st' := (⟨[(0, (AV.list 1 eI64 (0 : Int) a_l .none)), (1, (AV.list 1 eU8 (0 : Int) a_p1 .none)), (23, (.bool (bif (decide (((500 : Int) : Int) < (a_l.length : Int))) then true else (decide (((1000 : Int) : Int) < (a_p1.length : Int))))))], []⟩ : St)) (obs := [(((decide (((500 : Int) : Int) < (a_l.length : Int))) == false) = true → ((decide (((500 : Int) : Int) < (a_l.length : Int))) == false) = true), (((decide (((500 : Int) : Int) < (a_l.length : Int))) == false) = true → ((decide (((500 : Int) : Int) < (a_l.length : Int))) == false) = true), ((decide (((500 : Int) : Int) < (a_l.length : Int))) = false → ((decide (((500 : Int) : Int) < (a_l.length : Int))) == false) = true)]) hn mix (no_hand hΓ) (by kernel_rfl) ⟨(fun hg => hg), (fun hg => hg), (fun hp => by rw [hp]; rfl), trivial⟩ ?_
    refine then_normal ?_
    refine awp_cond (bif (decide (((500 : Int) : Int) < (a_l.length : Int))) then true else (decide (((1000 : Int) : Int) < (a_p1.length : Int)))) (by kernel_rfl) (fun hb => ?_) (fun hb => ?_)
    · replace h := cond_t hb h
      clear hb
      refine awp_seq ?_
      refine awp_region (rs := []) (cs := []) (live := [4]) (names := []) (st' := (⟨[(4, (.bool true))], []⟩ : St)) (obs := []) hn mix (no_hand hΓ) (by kernel_rfl) trivial ?_
      refine then_normal ?_
      refine awp_ret ?_
      refine then_ret ?_
      obtain rfl := Option.some.inj h
      exact ⟨.inl rfl, [], by kernel_rfl⟩
    · replace h := cond_f hb h
      clear hb
      refine awp_skip ?_
      refine then_normal ?_
      refine awp_seq ?_
      obtain ⟨x2, hx2, h⟩ := bind_some h
      refine awp_region (rs := [⟨[], [(20000, 25)], (AV.list 1 eU8 (0 : Int) x2 (.own 20000)), [(20000, .tok 1 5 x2.length)]⟩]) (cs := []) (live := [0, 1, 5]) (names := [25]) (st' := (⟨[(0, (AV.list 1 eI64 (0 : Int) a_l .none)), (1, (AV.list 1 eU8 (0 : Int) a_p1 .none)), (5, (AV.list 1 eU8 (0 : Int) x2 (.own 25)))], [(25, .tok 1 5 x2.length)]⟩ : St)) (obs := [(Spec Try.prog 13 [(AV.list 1 eI64 (0 : Int) a_l .none)] [] (AV.list 1 eU8 (0 : Int) x2 (.own 20000)) [(20000, .tok 1 5 x2.length)])]) hn mix (no_hand hΓ) (by kernel_rfl) ⟨(ok_num_Row a_l x2 hx2), trivial⟩ ?_
      refine then_normal ?_
      refine awp_seq ?_
      refine awp_seq ?_
      obtain ⟨x3, hx3, h⟩ := bind_some h
      obtain ⟨x4, hx4, h⟩ := bind_some h
      refine awp_region (rs := [⟨[], [(20000, 28)], (AV.list 1 eU8 (0 : Int) x3 (.own 20000)), [(20000, .tok 1 5 x3.length)]⟩, ⟨[], [], (.bool x4), []⟩]) (cs := []) (live := [0, 1, 5, 30]) (names := [25]) (st' := (⟨[(0, (AV.list 1 eI64 (0 : Int) a_l .none)), (1, (AV.list 1 eU8 (0 : Int) a_p1 .none)), (5, (AV.list 1 eU8 (0 : Int) x2 (.own 25))), (30, (.bool (!x4)))], [(25, .tok 1 5 x2.length)]⟩ : St)) (obs := [(Spec Try.prog 14 [(AV.list 1 eI64 (0 : Int) a_l .none)] [] (AV.list 1 eU8 (0 : Int) x3 (.own 20000)) [(20000, .tok 1 5 x3.length)]), (Spec Try.prog 11 [(AV.list 1 eU8 (0 : Int) x2 .none), (AV.list 1 eU8 (0 : Int) x3 .none)] [] (.bool x4) [])]) hn mix (no_hand hΓ) (by kernel_rfl) ⟨(ok_lockstepref02_Row a_l x3 hx3), (ok_lockstepref02_Same x2 x3 x4 hx4), trivial⟩ ?_
      refine then_normal ?_
      refine awp_cond (!x4) (by kernel_rfl) (fun hb => ?_) (fun hb => ?_)
      · replace h := cond_t hb h
        clear hb
        refine awp_seq ?_
        refine awp_region (rs := []) (cs := []) (live := [4]) (names := []) (st' := (⟨[(4, (.bool false))], []⟩ : St)) (obs := []) hn mix (no_hand hΓ) (by kernel_rfl) trivial ?_
        refine then_normal ?_
        refine awp_ret ?_
        refine then_ret ?_
        obtain rfl := Option.some.inj h
        exact ⟨.inl rfl, [], by kernel_rfl⟩
      · replace h := cond_f hb h
        clear hb
        refine awp_skip ?_
        refine then_normal ?_
        refine awp_seq ?_
        refine awp_region (rs := []) (cs := []) (live := [0, 1, 5, 6]) (names := [25]) (st' := (⟨[(0, (AV.list 1 eI64 (0 : Int) a_l .none)), (1, (AV.list 1 eU8 (0 : Int) a_p1 .none)), (5, (AV.list 1 eU8 (0 : Int) x2 (.own 25))), (6, (.bool false))], [(25, .tok 1 5 x2.length)]⟩ : St)) (obs := []) hn mix (no_hand hΓ) (by kernel_rfl) trivial ?_
        refine then_normal ?_
        refine awp_seq ?_
        refine awp_seq ?_
        refine awp_region (rs := []) (cs := []) (live := [0, 1, 5, 6, 7]) (names := [25]) (st' := (⟨[(0, (AV.list 1 eI64 (0 : Int) a_l .none)), (1, (AV.list 1 eU8 (0 : Int) a_p1 .none)), (5, (AV.list 1 eU8 (0 : Int) x2 (.own 25))), (6, (.bool false)), (7, (.int .i64 (0 : Int)))], [(25, .tok 1 5 x2.length)]⟩ : St)) (obs := []) hn mix (no_hand hΓ) (by kernel_rfl) trivial ?_
        refine then_normal ?_
        refine awp_block ?_
        refine awp_le (st' := (fun ((b5, i6) : (Bool × Int)) => (⟨[(0, (AV.list 1 eI64 (0 : Int) a_l .none)), (1, (AV.list 1 eU8 (0 : Int) a_p1 .none)), (5, (AV.list 1 eU8 (0 : Int) x2 (.own 25))), (6, (.bool b5)), (7, (.int .i64 i6))], [(25, .tok 1 5 x2.length)]⟩ : St)) (false, (0 : Int))) (Le.refl _ _) ?_
        obtain ⟨x10, hx10, h⟩ := bind_some h
        refine awp_loop (fun ((b5, i6) : (Bool × Int)) => (⟨[(0, (AV.list 1 eI64 (0 : Int) a_l .none)), (1, (AV.list 1 eU8 (0 : Int) a_p1 .none)), (5, (AV.list 1 eU8 (0 : Int) x2 (.own 25))), (6, (.bool b5)), (7, (.int .i64 i6))], [(25, .tok 1 5 x2.length)]⟩ : St)) _ (fun (x_ : (Bool ⊕ Bool)) (e : Exit) (st : St) => match x_ with | (.inl b7) => e = (.exit 0) ∧ Le Γ st (⟨[(0, (AV.list 1 eI64 (0 : Int) a_l .none)), (1, (AV.list 1 eU8 (0 : Int) a_p1 .none)), (5, (AV.list 1 eU8 (0 : Int) x2 (.own 25))), (6, (.bool b7))], [(25, .tok 1 5 x2.length)]⟩ : St) | (.inr r_) => e = .ret ∧ retK Try.prog Try.f4.results.toList [] (.bool r_) [] e st) ?_ hx10 ?_
        · rintro ⟨b5, i6⟩ y h
          unfold m_locksteplaw02_NumRows_L1 at h
          refine awp_seq ?_
          refine awp_seq ?_
          refine awp_region (rs := []) (cs := []) (live := [0, 1, 5, 6, 7, 34]) (names := [25]) (st' := (⟨[(0, (AV.list 1 eI64 (0 : Int) a_l .none)), (1, (AV.list 1 eU8 (0 : Int) a_p1 .none)), (5, (AV.list 1 eU8 (0 : Int) x2 (.own 25))), (6, (.bool b5)), (7, (.int .i64 i6)), (34, (.bool (decide ((i6 : Int) < (a_l.length : Int)))))], [(25, .tok 1 5 x2.length)]⟩ : St)) (obs := []) hn mix (no_hand hΓ) (by kernel_rfl) trivial ?_
          refine then_normal ?_
          refine awp_cond (decide ((i6 : Int) < (a_l.length : Int))) (by kernel_rfl) (fun hb => ?_) (fun hb => ?_)
          · replace h := cond_t hb h
            clear hb
            refine awp_skip ?_
            refine then_normal ?_
            refine awp_seq ?_
            refine awp_block ?_
            refine awp_seq ?_
            refine awp_seq ?_
            obtain ⟨hc8, h⟩ := chk_some h
            refine awp_region (rs := []) (cs := []) (live := [0, 1, 5, 6, 7, 41]) (names := [25]) (st' := (⟨[(0, (AV.list 1 eI64 (0 : Int) a_l .none)), (1, (AV.list 1 eU8 (0 : Int) a_p1 .none)), (5, (AV.list 1 eU8 (0 : Int) x2 (.own 25))), (6, (.bool b5)), (7, (.int .i64 i6)), (41, (.bool (decide (((a_l.getD (i6).toNat (0 : Int)) : Int) < (0 : Int)))))], [(25, .tok 1 5 x2.length)]⟩ : St)) (obs := [(InB i6 a_l.length)]) hn mix (no_hand hΓ) (by kernel_rfl) ⟨hc8, trivial⟩ ?_
            refine then_normal ?_
            refine awp_cond (decide (((a_l.getD (i6).toNat (0 : Int)) : Int) < (0 : Int))) (by kernel_rfl) (fun hb => ?_) (fun hb => ?_)
            · replace h := cond_t hb h
              clear hb
              refine awp_seq ?_
              refine awp_region (rs := []) (cs := []) (live := [4]) (names := []) (st' := (⟨[(4, (.bool (((x2.length : Int) : Int) == (0 : Int))))], []⟩ : St)) (obs := []) hn mix (no_hand hΓ) (by kernel_rfl) trivial ?_
              refine then_normal ?_
              refine awp_ret ?_
              refine then_ret ?_
              refine block_ret ?_
              refine then_ret ?_
              obtain rfl := Option.some.inj h
              exact ⟨(by intro hh; cases hh), rfl, ⟨.inl rfl, [], by kernel_rfl⟩⟩
            · replace h := cond_f hb h
              clear hb
              refine awp_skip ?_
              refine then_normal ?_
              obtain ⟨hc9, h⟩ := chk_some h
              refine awp_region (rs := []) (cs := []) (live := [0, 1, 5, 6, 7]) (names := [25]) (st' := (⟨[(0, (AV.list 1 eI64 (0 : Int) a_l .none)), (1, (AV.list 1 eU8 (0 : Int) a_p1 .none)), (5, (AV.list 1 eU8 (0 : Int) x2 (.own 25))), (6, (.bool (bif b5 then true else (decide (((2147483647 : Int) : Int) < (a_l.getD (i6).toNat (0 : Int))))))), (7, (.int .i64 i6))], [(25, .tok 1 5 x2.length)]⟩ : St)) (obs := [((b5 == false) = true → (b5 == false) = true), ((b5 == false) = true → (b5 == false) = true), ((b5 == false) = true → (InB i6 a_l.length)), ((b5 == false) = true → (b5 == false) = true), ((b5 == false) = true → (b5 == false) = true), (b5 = false → (b5 == false) = true)]) hn mix (no_hand hΓ) (by kernel_rfl) ⟨(fun hg => hg), (fun hg => hg), (fun hg => (hc9 hg)), (fun hg => hg), (fun hg => hg), (fun hp => by rw [hp]; rfl), trivial⟩ ?_
              refine block_normal ?_
              refine then_normal ?_
              refine awp_region (rs := []) (cs := []) (live := [0, 1, 5, 6, 7]) (names := [25]) (st' := (⟨[(0, (AV.list 1 eI64 (0 : Int) a_l .none)), (1, (AV.list 1 eU8 (0 : Int) a_p1 .none)), (5, (AV.list 1 eU8 (0 : Int) x2 (.own 25))), (6, (.bool (bif b5 then true else (decide (((2147483647 : Int) : Int) < (a_l.getD (i6).toNat (0 : Int))))))), (7, (.int .i64 (w64 (i6 + (1 : Int)))))], [(25, .tok 1 5 x2.length)]⟩ : St)) (obs := []) hn mix (no_hand hΓ) (by kernel_rfl) trivial ?_
              obtain rfl := Option.some.inj h
              exact ⟨rfl, Le.refl _ _⟩
          · replace h := cond_f hb h
            clear hb
            refine awp_exit ?_
            refine then_exit ?_
            obtain rfl := Option.some.inj h
            exact ⟨(by intro hh; cases hh), rfl, le_restrict_eq [0, 1, 5, 6] [25] (by kernel_rfl) (no_hand hΓ)⟩
        · clear hx10
          rcases x10 with b7 | r17
          · rintro e st' ⟨rfl, hl11⟩
            refine block_here ?_
            refine then_normal ?_
            refine awp_le hl11 ?_
            refine awp_seq ?_
            obtain ⟨hc12, h⟩ := chk_some h
            obtain ⟨hc13, h⟩ := chk_some h
            obtain ⟨x14, hx14, h⟩ := bind_some h
            refine awp_region (rs := [⟨[], [(20000, 61)], (.tuple [(AV.list 1 eI64 (0 : Int) x14.1 (.own 20000)), (.int .i64 x14.2.1), (.int .i64 x14.2.2)]), [(20000, .tok 1 3 x14.1.length)]⟩]) (cs := [(54, (AV.list 1 eU8 (0 : Int) ([] : List Int) .exact)), (56, (AV.list 1 eU8 (0 : Int) (([] : List Int) ++ x2) (.own 56))), (58, (AV.list 1 eU8 (0 : Int) ((([] : List Int) ++ x2) ++ a_p1) (.own 56)))]) (live := [0, 5, 6, 8, 9, 10]) (names := [25, 61]) (st' := (⟨[(0, (AV.list 1 eI64 (0 : Int) a_l .none)), (5, (AV.list 1 eU8 (0 : Int) x2 (.own 25))), (6, (.bool b7)), (8, (AV.list 1 eI64 (0 : Int) x14.1 (.own 61))), (9, (.int .i64 x14.2.1)), (10, (.int .i64 x14.2.2))], [(25, .tok 1 5 x2.length), (61, .tok 1 3 x14.1.length)]⟩ : St)) (obs := [(AVle (.slice 1 0 (fun i => ([] : List (List AV)).getD i []) .exact) (AV.list 1 eU8 (0 : Int) ([] : List Int) .exact)), (([] : List Int).length + x2.length ≤ room), (AVle (.slice 1 (([] : List Int).length + x2.length) (appF ([] : List Int).length (fun i => eU8 (([] : List Int).getD i (0 : Int))) (fun i => eU8 (x2.getD i (0 : Int)))) (.own 56)) (AV.list 1 eU8 (0 : Int) (([] : List Int) ++ x2) (.own 56))), (([] : List Int).length + x2.length = (([] : List Int) ++ x2).length), ((([] : List Int) ++ x2).length = (([] : List Int) ++ x2).length), ((([] : List Int) ++ x2).length + a_p1.length ≤ room), (AVle (.slice 1 ((([] : List Int) ++ x2).length + a_p1.length) (appF (([] : List Int) ++ x2).length (fun i => eU8 ((([] : List Int) ++ x2).getD i (0 : Int))) (fun i => eU8 (a_p1.getD i (0 : Int)))) (.own 56)) (AV.list 1 eU8 (0 : Int) ((([] : List Int) ++ x2) ++ a_p1) (.own 56))), ((([] : List Int) ++ x2).length + a_p1.length = ((([] : List Int) ++ x2) ++ a_p1).length), (Spec Try.prog 15 [(AV.list 1 eU8 (0 : Int) ((([] : List Int) ++ x2) ++ a_p1) .none), (.int .i64 (a_l.length : Int))] [] (.tuple [(AV.list 1 eI64 (0 : Int) x14.1 (.own 20000)), (.int .i64 x14.2.1), (.int .i64 x14.2.2)]) [(20000, .tok 1 3 x14.1.length)])]) hn mix (no_hand hΓ) (by kernel_rfl) ⟨av_lit rfl (fun i hi => absurd hi (Nat.not_lt_zero i)), hc12, av_app, (len_app _ _), rfl, hc13, av_app, (len_app _ _), (ok_num_List ((([] : List Int) ++ x2) ++ a_p1) (a_l.length : Int) x14 hx14), trivial⟩ ?_
            refine then_normal ?_
            refine awp_seq ?_
            refine awp_seq ?_
            refine awp_region (rs := []) (cs := []) (live := [0, 5, 8, 9, 10, 65]) (names := [25, 61]) (st' := (⟨[(0, (AV.list 1 eI64 (0 : Int) a_l .none)), (5, (AV.list 1 eU8 (0 : Int) x2 (.own 25))), (8, (AV.list 1 eI64 (0 : Int) x14.1 (.own 61))), (9, (.int .i64 x14.2.1)), (10, (.int .i64 x14.2.2)), (65, (.bool b7))], [(25, .tok 1 5 x2.length), (61, .tok 1 3 x14.1.length)]⟩ : St)) (obs := []) hn mix (no_hand hΓ) (by kernel_rfl) trivial ?_
            refine then_normal ?_
            refine awp_cond b7 (by kernel_rfl) (fun hb => ?_) (fun hb => ?_)
            · replace h := cond_t hb h
              clear hb
              refine awp_seq ?_
              refine awp_region (rs := []) (cs := []) (live := [4]) (names := []) (st' := (⟨[(4, (.bool ((x14.2.2 : Int) == (4 : Int))))], []⟩ : St)) (obs := []) hn mix (no_hand hΓ) (by kernel_rfl) trivial ?_
              refine then_normal ?_
              refine awp_ret ?_
              refine then_ret ?_
              obtain rfl := Option.some.inj h
              exact ⟨.inl rfl, [], by kernel_rfl⟩
            · replace h := cond_f hb h
              clear hb
              refine awp_skip ?_
              refine then_normal ?_
              refine awp_seq ?_
              obtain ⟨x15, hx15, h⟩ := bind_some h
              refine awp_region (rs := [⟨[], [(20000, 73)], (.tuple [(AV.list 1 eI64 (0 : Int) x15.1 (.own 20000)), (.int .i64 x15.2.1), (.int .i64 x15.2.2)]), [(20000, .tok 1 3 x15.1.length)]⟩]) (cs := []) (live := [0, 5, 8, 9, 10, 13]) (names := [25, 61]) (st' := (⟨[(0, (AV.list 1 eI64 (0 : Int) a_l .none)), (5, (AV.list 1 eU8 (0 : Int) x2 (.own 25))), (8, (AV.list 1 eI64 (0 : Int) x14.1 (.own 61))), (9, (.int .i64 x14.2.1)), (10, (.int .i64 x14.2.2)), (13, (.int .i64 x15.2.2))], [(25, .tok 1 5 x2.length), (61, .tok 1 3 x14.1.length)]⟩ : St)) (obs := [(Spec Try.prog 15 [(AV.list 1 eU8 (0 : Int) x2 .none), (.int .i64 (w64 ((a_l.length : Int) - (1 : Int))))] [] (.tuple [(AV.list 1 eI64 (0 : Int) x15.1 (.own 20000)), (.int .i64 x15.2.1), (.int .i64 x15.2.2)]) [(20000, .tok 1 3 x15.1.length)])]) hn mix (no_hand hΓ) (by kernel_rfl) ⟨(ok_num_List x2 (w64 ((a_l.length : Int) - (1 : Int))) x15 hx15), trivial⟩ ?_
              refine then_normal ?_
              refine awp_seq ?_
              obtain ⟨x16, hx16, h⟩ := bind_some h
              refine awp_region (rs := [⟨[], [], (.bool x16), []⟩]) (cs := []) (live := [4]) (names := []) (st' := (⟨[(4, (.bool (bif (bif (bif ((x14.2.2 : Int) == (0 : Int)) then ((x14.2.1 : Int) == (x2.length : Int)) else false) then x16 else false) then ((x15.2.2 : Int) == (4 : Int)) else false)))], []⟩ : St)) (obs := [((((x14.2.2 : Int) == (0 : Int)) == true) = true → (((x14.2.2 : Int) == (0 : Int)) == true) = true), ((((x14.2.2 : Int) == (0 : Int)) == true) = true → (((x14.2.2 : Int) == (0 : Int)) == true) = true), ((((x14.2.2 : Int) == (0 : Int)) == true) = true → (((x14.2.2 : Int) == (0 : Int)) == true) = true), (((x14.2.2 : Int) == (0 : Int)) = true → (((x14.2.2 : Int) == (0 : Int)) == true) = true), (((bif ((x14.2.2 : Int) == (0 : Int)) then ((x14.2.1 : Int) == (x2.length : Int)) else false) == true) = true → ((bif ((x14.2.2 : Int) == (0 : Int)) then ((x14.2.1 : Int) == (x2.length : Int)) else false) == true) = true), (((bif ((x14.2.2 : Int) == (0 : Int)) then ((x14.2.1 : Int) == (x2.length : Int)) else false) == true) = true → ((bif ((x14.2.2 : Int) == (0 : Int)) then ((x14.2.1 : Int) == (x2.length : Int)) else false) == true) = true), (((bif ((x14.2.2 : Int) == (0 : Int)) then ((x14.2.1 : Int) == (x2.length : Int)) else false) == true) = true → (Spec Try.prog 16 [(AV.list 1 eI64 (0 : Int) x14.1 .none), (AV.list 1 eI64 (0 : Int) a_l .none)] [] (.bool x16) [])), ((bif ((x14.2.2 : Int) == (0 : Int)) then ((x14.2.1 : Int) == (x2.length : Int)) else false) = true → ((bif ((x14.2.2 : Int) == (0 : Int)) then ((x14.2.1 : Int) == (x2.length : Int)) else false) == true) = true), (((bif (bif ((x14.2.2 : Int) == (0 : Int)) then ((x14.2.1 : Int) == (x2.length : Int)) else false) then x16 else false) == true) = true → ((bif (bif ((x14.2.2 : Int) == (0 : Int)) then ((x14.2.1 : Int) == (x2.length : Int)) else false) then x16 else false) == true) = true), ((bif (bif ((x14.2.2 : Int) == (0 : Int)) then ((x14.2.1 : Int) == (x2.length : Int)) else false) then x16 else false) = true → ((bif (bif ((x14.2.2 : Int) == (0 : Int)) then ((x14.2.1 : Int) == (x2.length : Int)) else false) then x16 else false) == true) = true)]) hn mix (no_hand hΓ) (by kernel_rfl) ⟨(fun hg => hg), (fun hg => hg), (fun hg => hg), (fun hp => by rw [hp]; rfl), (fun hg => hg), (fun hg => hg), (fun hg => (ok_lockstepref02_Ints x14.1 a_l x16 (cond_t hg hx16))), (fun hp => by rw [hp]; rfl), (fun hg => hg), (fun hp => by rw [hp]; rfl), trivial⟩ ?_
              refine then_normal ?_
              refine awp_ret ?_
              obtain rfl := Option.some.inj h
              exact ⟨.inl rfl, [], by kernel_rfl⟩
          · rintro e st' ⟨rfl, hk⟩
            refine block_ret ?_
            refine then_ret ?_
            obtain rfl := Option.some.inj h
            exact hk

noncomputable def m_locksteplaw02_NumOrder (a_a : Int) (a_b : Int) : Option Bool :=
  ((m_locksteplaw02_awake).bind fun x1 => (bif (!x1) then (some false) else ((m_num_Put a_a).bind fun x2 => ((m_num_Put a_b).bind fun x3 => ((bif ((bif (decide ((a_a : Int) < a_b)) then (decide (((x3.length : Int) : Int) < (x2.length : Int))) else false) == false) then m_lockstepref02_Same x2 x3 else some (false)).bind fun x4 => (bif (bif (bif (bif (bif (decide ((a_a : Int) < a_b)) then (decide (((x3.length : Int) : Int) < (x2.length : Int))) else false) then true else (x4 != ((a_a : Int) == a_b))) then true else (decide (((x2.length : Int) : Int) < (1 : Int)))) then true else (decide (((10 : Int) : Int) < (x2.length : Int)))) then (some false) else (chk ((((a_a : Int) == a_b) == false) = true → (0 ≤ (if (x3.length : Int) < (x2.length : Int) then (x3.length : Int) else (x2.length : Int)) ∧ (if (x3.length : Int) < (x2.length : Int) then (x3.length : Int) else (x2.length : Int)) ≤ (x2.length : Int))) (chk ((((a_a : Int) == a_b) == false) = true → (0 ≤ (if (x3.length : Int) < (x2.length : Int) then (x3.length : Int) else (x2.length : Int)) ∧ (if (x3.length : Int) < (x2.length : Int) then (x3.length : Int) else (x2.length : Int)) ≤ (x3.length : Int))) ((bif (((a_a : Int) == a_b) == false) then m_lockstepref02_Same (x2.take ((if (x3.length : Int) < (x2.length : Int) then (x3.length : Int) else (x2.length : Int))).toNat) (x3.take ((if (x3.length : Int) < (x2.length : Int) then (x3.length : Int) else (x2.length : Int))).toNat) else some (false)).bind fun x7 => (some (bif ((a_a : Int) == a_b) then true else (!x7))))))))))))
theorem ok_locksteplaw02_NumOrder (a_a : Int) (a_b : Int) (r : Bool) (h : m_locksteplaw02_NumOrder a_a a_b = some r) : Spec Try.prog 5 [(.int .u64 a_a), (.int .u64 a_b)] [] (.bool r) [] := by
  refine spec_of_awp (fn := Try.f5) Try.func5 rfl rfl (by kernel_rfl) (fun Γ hn hΓ => ?_)
  have hn : Γ.n = 61 := hn
  unfold m_locksteplaw02_NumOrder at h
  refine awp_seq ?_
  refine awp_region (rs := []) (cs := []) (live := [0, 1]) (names := []) (st' := (⟨[(0, (.int .u64 a_a)), (1, (.int .u64 a_b))], []⟩ : St)) (obs := []) hn mix (no_hand hΓ) (by kernel_rfl) trivial ?_
  refine then_normal ?_
  refine awp_seq ?_
  refine awp_seq ?_
  obtain ⟨x1, hx1, h⟩ := bind_some h
  refine awp_region (rs := [⟨[], [], (.bool x1), []⟩]) (cs := []) (live := [0, 1, 9]) (names := []) (st' := (⟨[(0, (.int .u64 a_a)), (1, (.int .u64 a_b)), (9, (.bool (!x1)))], []⟩ : St)) (obs := [(Spec Try.prog 8 [] [] (.bool x1) [])]) hn mix (no_hand hΓ) (by kernel_rfl) ⟨(ok_locksteplaw02_awake  x1 hx1), trivial⟩ ?_
  refine then_normal ?_
  refine awp_cond (!x1) (by kernel_rfl) (fun hb => ?_) (fun hb => ?_)
  · replace h := cond_t hb h
    clear hb
    refine awp_seq ?_
    refine awp_region (rs := []) (cs := []) (live := [4]) (names := []) (st' := (⟨[(4, (.bool false))], []⟩ : St)) (obs := []) hn mix (no_hand hΓ) (by kernel_rfl) trivial ?_
    refine then_normal ?_
    refine awp_ret ?_
    refine then_ret ?_
    obtain rfl := Option.some.inj h
    exact ⟨.inl rfl, [], by kernel_rfl⟩
  · replace h := cond_f hb h
    clear hb
    refine awp_skip ?_
    refine then_normal ?_
    refine awp_seq ?_
    obtain ⟨x2, hx2, h⟩ := bind_some h
    refine awp_region (rs := [⟨[], [(20000, 11)], (AV.list 1 eU8 (0 : Int) x2 (.own 20000)), [(20000, .tok 1 5 x2.length)]⟩]) (cs := []) (live := [0, 1, 5]) (names := [11]) (st' := (⟨[(0, (.int .u64 a_a)), (1, (.int .u64 a_b)), (5, (AV.list 1 eU8 (0 : Int) x2 (.own 11)))], [(11, .tok 1 5 x2.length)]⟩ : St)) (obs := [(Spec Try.prog 9 [(.int .u64 a_a)] [] (AV.list 1 eU8 (0 : Int) x2 (.own 20000)) [(20000, .tok 1 5 x2.length)])]) hn mix (no_hand hΓ) (by kernel_rfl) ⟨(ok_num_Put a_a x2 hx2), trivial⟩ ?_
    refine then_normal ?_
    refine awp_seq ?_
    obtain ⟨x3, hx3, h⟩ := bind_some h
    refine awp_region (rs := [⟨[], [(20000, 13)], (AV.list 1 eU8 (0 : Int) x3 (.own 20000)), [(20000, .tok 1 5 x3.length)]⟩]) (cs := []) (live := [0, 1, 5, 6]) (names := [11, 13]) (st' := (⟨[(0, (.int .u64 a_a)), (1, (.int .u64 a_b)), (5, (AV.list 1 eU8 (0 : Int) x2 (.own 11))), (6, (AV.list 1 eU8 (0 : Int) x3 (.own 13)))], [(11, .tok 1 5 x2.length), (13, .tok 1 5 x3.length)]⟩ : St)) (obs := [(Spec Try.prog 9 [(.int .u64 a_b)] [] (AV.list 1 eU8 (0 : Int) x3 (.own 20000)) [(20000, .tok 1 5 x3.length)])]) hn mix (no_hand hΓ) (by kernel_rfl) ⟨(ok_num_Put a_b x3 hx3), trivial⟩ ?_
    refine then_normal ?_
    refine awp_seq ?_
    refine awp_seq ?_
    obtain ⟨x4, hx4, h⟩ := bind_some h
    refine awp_region (rs := [⟨[], [], (.bool x4), []⟩]) (cs := []) (live := [0, 1, 5, 6, 42]) (names := [11, 13]) (st' := (⟨[(0, (.int .u64 a_a)), (1, (.int .u64 a_b)), (5, (AV.list 1 eU8 (0 : Int) x2 (.own 11))), (6, (AV.list 1 eU8 (0 : Int) x3 (.own 13))), (42, (.bool (bif (bif (bif (bif (decide ((a_a : Int) < a_b)) then (decide (((x3.length : Int) : Int) < (x2.length : Int))) else false) then true else (x4 != ((a_a : Int) == a_b))) then true else (decide (((x2.length : Int) : Int) < (1 : Int)))) then true else (decide (((10 : Int) : Int) < (x2.length : Int))))))], [(11, .tok 1 5 x2.length), (13, .tok 1 5 x3.length)]⟩ : St)) (obs := [(((decide ((a_a : Int) < a_b)) == true) = true → ((decide ((a_a : Int) < a_b)) == true) = true), (((decide ((a_a : Int) < a_b)) == true) = true → ((decide ((a_a : Int) < a_b)) == true) = true), (((decide ((a_a : Int) < a_b)) == true) = true → ((decide ((a_a : Int) < a_b)) == true) = true), (((decide ((a_a : Int) < a_b)) == true) = true → ((decide ((a_a : Int) < a_b)) == true) = true), ((decide ((a_a : Int) < a_b)) = true → ((decide ((a_a : Int) < a_b)) == true) = true), (((bif (decide ((a_a : Int) < a_b)) then (decide (((x3.length : Int) : Int) < (x2.length : Int))) else false) == false) = true → ((bif (decide ((a_a : Int) < a_b)) then (decide (((x3.length : Int) : Int) < (x2.length : Int))) else false) == false) = true), (((bif (decide ((a_a : Int) < a_b)) then (decide (((x3.length : Int) : Int) < (x2.length : Int))) else false) == false) = true → ((bif (decide ((a_a : Int) < a_b)) then (decide (((x3.length : Int) : Int) < (x2.length : Int))) else false) == false) = true), (((bif (decide ((a_a : Int) < a_b)) then (decide (((x3.length : Int) : Int) < (x2.length : Int))) else false) == false) = true → (Spec Try.prog 11 [(AV.list 1 eU8 (0 : Int) x2 .none), (AV.list 1 eU8 (0 : Int) x3 .none)] [] (.bool x4) [])), (((bif (decide ((a_a : Int) < a_b)) then (decide (((x3.length : Int) : Int) < (x2.length : Int))) else false) == false) = true → ((bif (decide ((a_a : Int) < a_b)) then (decide (((x3.length : Int) : Int) < (x2.length : Int))) else false) == false) = true), (((bif (decide ((a_a : Int) < a_b)) then (decide (((x3.length : Int) : Int) < (x2.length : Int))) else false) == false) = true → ((bif (decide ((a_a : Int) < a_b)) then (decide (((x3.length : Int) : Int) < (x2.length : Int))) else false) == false) = true), (((bif (decide ((a_a : Int) < a_b)) then (decide (((x3.length : Int) : Int) < (x2.length : Int))) else false) == false) = true → ((bif (decide ((a_a : Int) < a_b)) then (decide (((x3.length : Int) : Int) < (x2.length : Int))) else false) == false) = true), (((bif (decide ((a_a : Int) < a_b)) then (decide (((x3.length : Int) : Int) < (x2.length : Int))) else false) == false) = true → ((bif (decide ((a_a : Int) < a_b)) then (decide (((x3.length : Int) : Int) < (x2.length : Int))) else false) == false) = true), ((bif (decide ((a_a : Int) < a_b)) then (decide (((x3.length : Int) : Int) < (x2.length : Int))) else false) = false → ((bif (decide ((a_a : Int) < a_b)) then (decide (((x3.length : Int) : Int) < (x2.length : Int))) else false) == false) = true), (((bif (bif (decide ((a_a : Int) < a_b)) then (decide (((x3.length : Int) : Int) < (x2.length : Int))) else false) then true else (x4 != ((a_a : Int) == a_b))) == false) = true → ((bif (bif (decide ((a_a : Int) < a_b)) then (decide (((x3.length : Int) : Int) < (x2.length : Int))) else false) then true else (x4 != ((a_a : Int) == a_b))) == false) = true), (((bif (bif (decide ((a_a : Int) < a_b)) then (decide (((x3.length : Int) : Int) < (x2.length : Int))) else false) then true else (x4 != ((a_a : Int) == a_b))) == false) = true → ((bif (bif (decide ((a_a : Int) < a_b)) then (decide (((x3.length : Int) : Int) < (x2.length : Int))) else false) then true else (x4 != ((a_a : Int) == a_b))) == false) = true), ((bif (bif (decide ((a_a : Int) < a_b)) then (decide (((x3.length : Int) : Int) < (x2.length : Int))) else false) then true else (x4 != ((a_a : Int) == a_b))) = false → ((bif (bif (decide ((a_a : Int) < a_b)) then (decide (((x3.length : Int) : Int) < (x2.length : Int))) else false) then true else (x4 != ((a_a : Int) == a_b))) == false) = true), (((bif (bif (bif (decide ((a_a : Int) < a_b)) then (decide (((x3.length : Int) : Int) < (x2.length : Int))) else false) then true else (x4 != ((a_a : Int) == a_b))) then true else (decide (((x2.length : Int) : Int) < (1 : Int)))) == false) = true → ((bif (bif (bif (decide ((a_a : Int) < a_b)) then (decide (((x3.length : Int) : Int) < (x2.length : Int))) else false) then true else (x4 != ((a_a : Int) == a_b))) then true else (decide (((x2.length : Int) : Int) < (1 : Int)))) == false) = true), (((bif (bif (bif (decide ((a_a : Int) < a_b)) then (decide (((x3.length : Int) : Int) < (x2.length : Int))) else false) then true else (x4 != ((a_a : Int) == a_b))) then true else (decide (((x2.length : Int) : Int) < (1 : Int)))) == false) = true → ((bif (bif (bif (decide ((a_a : Int) < a_b)) then (decide (((x3.length : Int) : Int) < (x2.length : Int))) else false) then true else (x4 != ((a_a : Int) == a_b))) then true else (decide (((x2.length : Int) : Int) < (1 : Int)))) == false) = true), ((bif (bif (bif (decide ((a_a : Int) < a_b)) then (decide (((x3.length : Int) : Int) < (x2.length : Int))) else false) then true else (x4 != ((a_a : Int) == a_b))) then true else (decide (((x2.length : Int) : Int) < (1 : Int)))) = false → ((bif (bif (bif (decide ((a_a : Int) < a_b)) then (decide (((x3.length : Int) : Int) < (x2.length : Int))) else false) then true else (x4 != ((a_a : Int) == a_b))) then true else (decide (((x2.length : Int) : Int) < (1 : Int)))) == false) = true)]) hn mix (no_hand hΓ) (by kernel_rfl) ⟨(fun hg => hg), (fun hg => hg), (fun hg => hg), (fun hg => hg), (fun hp => by rw [hp]; rfl), (fun hg => hg), (fun hg => hg), (fun hg => (ok_lockstepref02_Same x2 x3 x4 (cond_t hg hx4))), (fun hg => hg), (fun hg => hg), (fun hg => hg), (fun hg => hg), (fun hp => by rw [hp]; rfl), (fun hg => hg), (fun hg => hg), (fun hp => by rw [hp]; rfl), (fun hg => hg), (fun hg => hg), (fun hp => by rw [hp]; rfl), trivial⟩ ?_
    refine then_normal ?_
    refine awp_cond (bif (bif (bif (bif (decide ((a_a : Int) < a_b)) then (decide (((x3.length : Int) : Int) < (x2.length : Int))) else false) then true else (x4 != ((a_a : Int) == a_b))) then true else (decide (((x2.length : Int) : Int) < (1 : Int)))) then true else (decide (((10 : Int) : Int) < (x2.length : Int)))) (by kernel_rfl) (fun hb => ?_) (fun hb => ?_)
    · replace h := cond_t hb h
      clear hb
      refine awp_seq ?_
      refine awp_region (rs := []) (cs := []) (live := [4]) (names := []) (st' := (⟨[(4, (.bool false))], []⟩ : St)) (obs := []) hn mix (no_hand hΓ) (by kernel_rfl) trivial ?_
      refine then_normal ?_
      refine awp_ret ?_
      refine then_ret ?_
      obtain rfl := Option.some.inj h
      exact ⟨.inl rfl, [], by kernel_rfl⟩
    · replace h := cond_f hb h
      clear hb
      refine awp_skip ?_
      refine then_normal ?_
      refine awp_seq ?_
      refine awp_region (rs := []) (cs := []) (live := [0, 1, 5, 6, 7]) (names := [11, 13]) (st' := (⟨[(0, (.int .u64 a_a)), (1, (.int .u64 a_b)), (5, (AV.list 1 eU8 (0 : Int) x2 (.own 11))), (6, (AV.list 1 eU8 (0 : Int) x3 (.own 13))), (7, (.int .i64 (if (x3.length : Int) < (x2.length : Int) then (x3.length : Int) else (x2.length : Int))))], [(11, .tok 1 5 x2.length), (13, .tok 1 5 x3.length)]⟩ : St)) (obs := []) hn mix (no_hand hΓ) (by kernel_rfl) trivial ?_
      refine then_normal ?_
      refine awp_seq ?_
      obtain ⟨hc5, h⟩ := chk_some h
      obtain ⟨hc6, h⟩ := chk_some h
      obtain ⟨x7, hx7, h⟩ := bind_some h
      refine awp_region (rs := [⟨[], [], (.bool x7), []⟩]) (cs := [(54, (AV.list 1 eU8 (0 : Int) (x2.take ((if (x3.length : Int) < (x2.length : Int) then (x3.length : Int) else (x2.length : Int))).toNat) .none)), (57, (AV.list 1 eU8 (0 : Int) (x3.take ((if (x3.length : Int) < (x2.length : Int) then (x3.length : Int) else (x2.length : Int))).toNat) .none))]) (live := [4]) (names := []) (st' := (⟨[(4, (.bool (bif ((a_a : Int) == a_b) then true else (!x7))))], []⟩ : St)) (obs := [((((a_a : Int) == a_b) == false) = true → (((a_a : Int) == a_b) == false) = true), ((((a_a : Int) == a_b) == false) = true → (((a_a : Int) == a_b) == false) = true), ((((a_a : Int) == a_b) == false) = true → (0 ≤ (if (x3.length : Int) < (x2.length : Int) then (x3.length : Int) else (x2.length : Int)) ∧ (if (x3.length : Int) < (x2.length : Int) then (x3.length : Int) else (x2.length : Int)) ≤ (x2.length : Int))), ((((a_a : Int) == a_b) == false) = true → (AVle (.slice 1 ((if (x3.length : Int) < (x2.length : Int) then (x3.length : Int) else (x2.length : Int))).toNat (fun i => eU8 (x2.getD i (0 : Int))) .none) (AV.list 1 eU8 (0 : Int) (x2.take ((if (x3.length : Int) < (x2.length : Int) then (x3.length : Int) else (x2.length : Int))).toNat) .none))), ((((a_a : Int) == a_b) == false) = true → (((a_a : Int) == a_b) == false) = true), ((((a_a : Int) == a_b) == false) = true → (((a_a : Int) == a_b) == false) = true), ((((a_a : Int) == a_b) == false) = true → (0 ≤ (if (x3.length : Int) < (x2.length : Int) then (x3.length : Int) else (x2.length : Int)) ∧ (if (x3.length : Int) < (x2.length : Int) then (x3.length : Int) else (x2.length : Int)) ≤ (x3.length : Int))), ((((a_a : Int) == a_b) == false) = true → (AVle (.slice 1 ((if (x3.length : Int) < (x2.length : Int) then (x3.length : Int) else (x2.length : Int))).toNat (fun i => eU8 (x3.getD i (0 : Int))) .none) (AV.list 1 eU8 (0 : Int) (x3.take ((if (x3.length : Int) < (x2.length : Int) then (x3.length : Int) else (x2.length : Int))).toNat) .none))), ((((a_a : Int) == a_b) == false) = true → (((a_a : Int) == a_b) == false) = true), ((((a_a : Int) == a_b) == false) = true → (((a_a : Int) == a_b) == false) = true), ((((a_a : Int) == a_b) == false) = true → (Spec Try.prog 11 [(AV.list 1 eU8 (0 : Int) (x2.take ((if (x3.length : Int) < (x2.length : Int) then (x3.length : Int) else (x2.length : Int))).toNat) .none), (AV.list 1 eU8 (0 : Int) (x3.take ((if (x3.length : Int) < (x2.length : Int) then (x3.length : Int) else (x2.length : Int))).toNat) .none)] [] (.bool x7) [])), ((((a_a : Int) == a_b) == false) = true → (((a_a : Int) == a_b) == false) = true), (((a_a : Int) == a_b) = false → (((a_a : Int) == a_b) == false) = true)]) hn mix (no_hand hΓ) (by kernel_rfl) ⟨(fun hg => hg), (fun hg => hg), (fun hg => (hc5 hg)), (fun hg => (av_take (by have hq := (hc5 hg); omega))), (fun hg => hg), (fun hg => hg), (fun hg => (hc6 hg)), (fun hg => (av_take (by have hq := (hc6 hg); omega))), (fun hg => hg), (fun hg => hg), (fun hg => (ok_lockstepref02_Same (x2.take ((if (x3.length : Int) < (x2.length : Int) then (x3.length : Int) else (x2.length : Int))).toNat) (x3.take ((if (x3.length : Int) < (x2.length : Int) then (x3.length : Int) else (x2.length : Int))).toNat) x7 (cond_t hg hx7))), (fun hg => hg), (fun hp => by rw [hp]; rfl), trivial⟩ ?_
      refine then_normal ?_
      refine awp_ret ?_
      obtain rfl := Option.some.inj h
      exact ⟨.inl rfl, [], by kernel_rfl⟩

noncomputable def m_locksteplaw02_NumStream_L1 (a_list : List (Int)) : (List (Int) × List (Int) × Int) → Option (LR (List (Int) × List (Int) × Int) (List (Int) × List (Int))) :=
  fun ((l2, l3, i4) : (List (Int) × List (Int) × Int)) => (bif (decide ((i4 : Int) < (a_list.length : Int))) then (chk (InB i4 a_list.length) ((m_num_Put (wu64 (bitsV .and .u32 (a_list.getD (i4).toNat (0 : Int)) (2147483647 : Int)))).bind fun x8 => (chk (l2.length + x8.length ≤ room) (chk (InB i4 a_list.length) (chk (l3.length + ([(w64 (bitsV .and .u32 (a_list.getD (i4).toNat (0 : Int)) (2147483647 : Int)))] : List (Int)).length ≤ room) (some (.next ((l2 ++ x8), (l3 ++ ([(w64 (bitsV .and .u32 (a_list.getD (i4).toNat (0 : Int)) (2147483647 : Int)))] : List (Int))), (w64 (i4 + (1 : Int))))))))))) else (some (.done (l2, l3))))
noncomputable def m_locksteplaw02_NumStream_L2 (a_list : List (Int)) (l5 : List (Int)) (l6 : List (Int)) : (Int × Int) → Option (LR (Int × Int) (Int ⊕ Bool)) :=
  fun ((i14, i15) : (Int × Int)) => (bif (decide ((i15 : Int) < (a_list.length : Int))) then (chk (0 ≤ i14 ∧ i14 ≤ (l5.length : Int)) ((m_num_Get (l5.drop (i14).toNat)).bind fun x18 => (chk ((((x18.2.2 : Int) != (0 : Int)) == false) = true → (InB i15 l6.length)) (bif (bif ((x18.2.2 : Int) != (0 : Int)) then true else ((x18.1 : Int) != (wu64 (l6.getD (i15).toNat (0 : Int))))) then (some (.done (.inr false))) else (some (.next ((w64 (i14 + x18.2.1)), (w64 (i15 + (1 : Int)))))))))) else (some (.done (.inl i14))))
noncomputable def m_locksteplaw02_NumStream (a_list : List (Int)) : Option Bool :=
  ((m_locksteplaw02_awake).bind fun x1 => (bif (!x1) then (some false) else (bif (decide (((100 : Int) : Int) < (a_list.length : Int))) then (some true) else ((loopO (S := (List (Int) × List (Int) × Int)) (X := (List (Int) × List (Int))) (m_locksteplaw02_NumStream_L1 a_list) (([] : List Int), ([] : List Int), (0 : Int))).bind (fun x12 => (match x12 with | (l5, l6) => ((loopO (S := (Int × Int)) (X := (Int ⊕ Bool)) (m_locksteplaw02_NumStream_L2 a_list l5 l6) ((0 : Int), (0 : Int))).bind (fun x20 => (match x20 with | (.inl i16) => ((m_num_Put (wu64 (a_list.length : Int))).bind fun x22 => (chk (x22.length + l5.length ≤ room) ((m_num_List (x22 ++ l5) (100 : Int)).bind fun x24 => ((bif ((bif (bif ((i16 : Int) == (l5.length : Int)) then ((x24.2.2 : Int) == (0 : Int)) else false) then ((x24.2.1 : Int) == ((x22 ++ l5).length : Int)) else false) == true) then m_lockstepref02_Ints x24.1 l6 else some (false)).bind fun x25 => ((bif ((bif (bif (bif ((i16 : Int) == (l5.length : Int)) then ((x24.2.2 : Int) == (0 : Int)) else false) then ((x24.2.1 : Int) == ((x22 ++ l5).length : Int)) else false) then x25 else false) == true) then m_num_Row l6 else some ([])).bind fun x26 => ((bif ((bif (bif (bif ((i16 : Int) == (l5.length : Int)) then ((x24.2.2 : Int) == (0 : Int)) else false) then ((x24.2.1 : Int) == ((x22 ++ l5).length : Int)) else false) then x25 else false) == true) then m_lockstepref02_Same x26 (x22 ++ l5) else some (false)).bind fun x27 => (some (bif (bif (bif (bif ((i16 : Int) == (l5.length : Int)) then ((x24.2.2 : Int) == (0 : Int)) else false) then ((x24.2.1 : Int) == ((x22 ++ l5).length : Int)) else false) then x25 else false) then x27 else false)))))))) | (.inr r28) => (some r28))))))))))
theorem ok_locksteplaw02_NumStream (a_list : List (Int)) (r : Bool) (h : m_locksteplaw02_NumStream a_list = some r) : Spec Try.prog 6 [(AV.list 1 eU32 (0 : Int) a_list .none)] [] (.bool r) [] := by
  refine spec_of_awp (fn := Try.f6) Try.func6 rfl rfl (by kernel_rfl) (fun Γ hn hΓ => ?_)
  have hn : Γ.n = 109 := hn
  unfold m_locksteplaw02_NumStream at h
  refine awp_seq ?_
  refine awp_region (rs := []) (cs := []) (live := [0]) (names := []) (st' := (⟨[(0, (AV.list 1 eU32 (0 : Int) a_list .none))], []⟩ : St)) (obs := []) hn mix (no_hand hΓ) (by kernel_rfl) trivial ?_
  refine then_normal ?_
  refine awp_seq ?_
  refine awp_seq ?_
  obtain ⟨x1, hx1, h⟩ := bind_some h
  refine awp_region (rs := [⟨[], [], (.bool x1), []⟩]) (cs := []) (live := [0, 16]) (names := []) (st' := (⟨[(0, (AV.list 1 eU32 (0 : Int) a_list .none)), (16, (.bool (!x1)))], []⟩ : St)) (obs := [(Spec Try.prog 8 [] [] (.bool x1) [])]) hn mix (no_hand hΓ) (by kernel_rfl) ⟨(ok_locksteplaw02_awake  x1 hx1), trivial⟩ ?_
  refine then_normal ?_
  refine awp_cond (!x1) (by kernel_rfl) (fun hb => ?_) (fun hb => ?_)
  · replace h := cond_t hb h
    clear hb
    refine awp_seq ?_
    refine awp_region (rs := []) (cs := []) (live := [2]) (names := []) (st' := (⟨[(2, (.bool false))], []⟩ : St)) (obs := []) hn mix (no_hand hΓ) (by kernel_rfl) trivial ?_
    refine then_normal ?_
    refine awp_ret ?_
    refine then_ret ?_
    obtain rfl := Option.some.inj h
    exact ⟨.inl rfl, [], by kernel_rfl⟩
  · replace h := cond_f hb h
    clear hb
    refine awp_skip ?_
    refine then_normal ?_
    refine awp_seq ?_
    refine awp_seq ?_
    refine awp_region (rs := []) (cs := []) (live := [0, 19]) (names := []) (st' := (⟨[(0, (AV.list 1 eU32 (0 : Int) a_list .none)), (19, (.bool (decide (((100 : Int) : Int) < (a_list.length : Int)))))], []⟩ : St)) (obs := []) hn mix (no_hand hΓ) (by kernel_rfl) trivial ?_
    refine then_normal ?_
    refine awp_cond (decide (((100 : Int) : Int) < (a_list.length : Int))) (by kernel_rfl) (fun hb => ?_) (fun hb => ?_)
    · replace h := cond_t hb h
      clear hb
      refine awp_seq ?_
      refine awp_region (rs := []) (cs := []) (live := [2]) (names := []) (st' := (⟨[(2, (.bool true))], []⟩ : St)) (obs := []) hn mix (no_hand hΓ) (by kernel_rfl) trivial ?_
      refine then_normal ?_
      refine awp_ret ?_
      refine then_ret ?_
      obtain rfl := Option.some.inj h
      exact ⟨.inl rfl, [], by kernel_rfl⟩
    · replace h := cond_f hb h
      clear hb
      refine awp_skip ?_
      refine then_normal ?_
      refine awp_seq ?_
      refine awp_region (rs := []) (cs := [(3, (AV.list 1 eU8 (0 : Int) ([] : List Int) .exact))]) (live := [0, 3]) (names := []) (st' := (⟨[(0, (AV.list 1 eU32 (0 : Int) a_list .none)), (3, (AV.list 1 eU8 (0 : Int) ([] : List Int) .exact))], []⟩ : St)) (obs := [(AVle (.slice 0 0 (fun _ => []) .exact) (AV.list 1 eU8 (0 : Int) ([] : List Int) .exact))]) hn mix (no_hand hΓ) (by kernel_rfl) ⟨av_nil, trivial⟩ ?_
      refine then_normal ?_
      refine awp_seq ?_
      refine awp_region (rs := []) (cs := [(4, (AV.list 1 eI64 (0 : Int) ([] : List Int) .exact))]) (live := [0, 3, 4]) (names := []) (st' := (⟨[(0, (AV.list 1 eU32 (0 : Int) a_list .none)), (3, (AV.list 1 eU8 (0 : Int) ([] : List Int) .exact)), (4, (AV.list 1 eI64 (0 : Int) ([] : List Int) .exact))], []⟩ : St)) (obs := [(AVle (.slice 0 0 (fun _ => []) .exact) (AV.list 1 eI64 (0 : Int) ([] : List Int) .exact))]) hn mix (no_hand hΓ) (by kernel_rfl) ⟨av_nil, trivial⟩ ?_
      refine then_normal ?_
      refine awp_seq ?_
      refine awp_seq ?_
      refine awp_region (rs := []) (cs := []) (live := [0, 3, 4, 5]) (names := []) (st' := (⟨[(0, (AV.list 1 eU32 (0 : Int) a_list .none)), (3, (AV.list 1 eU8 (0 : Int) ([] : List Int) .exact)), (4, (AV.list 1 eI64 (0 : Int) ([] : List Int) .exact)), (5, (.int .i64 (0 : Int)))], []⟩ : St)) (obs := []) hn mix (no_hand hΓ) (by kernel_rfl) trivial ?_
      refine then_normal ?_
      refine awp_block ?_
      refine awp_le (st' := (fun ((l2, l3, i4) : (List (Int) × List (Int) × Int)) => (⟨[(0, (AV.list 1 eU32 (0 : Int) a_list .none)), (3, (AV.list 1 eU8 (0 : Int) l2 (.own 5003))), (4, (AV.list 1 eI64 (0 : Int) l3 (.own 5004))), (5, (.int .i64 i4))], [(5003, .tok 1 5 l2.length), (5004, .tok 1 3 l3.length)]⟩ : St)) (([] : List Int), ([] : List Int), (0 : Int))) (Le.trans (le_restrict_eq (st' := (⟨[(0, (AV.list 1 eU32 (0 : Int) a_list .none)), (3, (AV.list 1 eU8 (0 : Int) ([] : List Int) .exact)), (4, (AV.list 1 eI64 (0 : Int) ([] : List Int) .exact)), (5, (.int .i64 (0 : Int)))], []⟩ : St)) [0, 3, 4, 5] [] (by kernel_rfl) (no_hand hΓ)) (Le.trans (Le.trans (le_tag (t := 3) (nm := 5003) (sz' := 1) (fun i => eU8 (([] : List Int).getD i (0 : Int))) 5 rfl rfl (.inl ⟨rfl, rfl⟩)) (le_eq (st' := (⟨[(0, (AV.list 1 eU32 (0 : Int) a_list .none)), (3, (AV.list 1 eU8 (0 : Int) ([] : List Int) (.own 5003))), (4, (AV.list 1 eI64 (0 : Int) ([] : List Int) .exact)), (5, (.int .i64 (0 : Int)))], [(5003, .tok 1 5 (([] : List Int).length))]⟩ : St)) (by kernel_rfl))) (Le.trans (le_tag (t := 4) (nm := 5004) (sz' := 1) (fun i => eI64 (([] : List Int).getD i (0 : Int))) 3 rfl rfl (.inl ⟨rfl, rfl⟩)) (le_eq (st' := (⟨[(0, (AV.list 1 eU32 (0 : Int) a_list .none)), (3, (AV.list 1 eU8 (0 : Int) ([] : List Int) (.own 5003))), (4, (AV.list 1 eI64 (0 : Int) ([] : List Int) (.own 5004))), (5, (.int .i64 (0 : Int)))], [(5003, .tok 1 5 (([] : List Int).length)), (5004, .tok 1 3 (([] : List Int).length))]⟩ : St)) (by kernel_rfl))))) ?_
      obtain ⟨x12, hx12, h⟩ := bind_some h
      refine awp_loop (fun ((l2, l3, i4) : (List (Int) × List (Int) × Int)) => (⟨[(0, (AV.list 1 eU32 (0 : Int) a_list .none)), (3, (AV.list 1 eU8 (0 : Int) l2 (.own 5003))), (4, (AV.list 1 eI64 (0 : Int) l3 (.own 5004))), (5, (.int .i64 i4))], [(5003, .tok 1 5 l2.length), (5004, .tok 1 3 l3.length)]⟩ : St)) _ (fun ((l5, l6) : (List (Int) × List (Int))) (e : Exit) (st : St) => e = (.exit 0) ∧ Le Γ st (⟨[(0, (AV.list 1 eU32 (0 : Int) a_list .none)), (3, (AV.list 1 eU8 (0 : Int) l5 (.own 5003))), (4, (AV.list 1 eI64 (0 : Int) l6 (.own 5004)))], [(5003, .tok 1 5 l5.length), (5004, .tok 1 3 l6.length)]⟩ : St)) ?_ hx12 ?_
      · rintro ⟨l2, l3, i4⟩ y h
        unfold m_locksteplaw02_NumStream_L1 at h
        refine awp_seq ?_
        refine awp_seq ?_
        refine awp_region (rs := []) (cs := []) (live := [0, 3, 4, 5, 23]) (names := [5003, 5004]) (st' := (⟨[(0, (AV.list 1 eU32 (0 : Int) a_list .none)), (3, (AV.list 1 eU8 (0 : Int) l2 (.own 5003))), (4, (AV.list 1 eI64 (0 : Int) l3 (.own 5004))), (5, (.int .i64 i4)), (23, (.bool (decide ((i4 : Int) < (a_list.length : Int)))))], [(5003, .tok 1 5 l2.length), (5004, .tok 1 3 l3.length)]⟩ : St)) (obs := []) hn mix (no_hand hΓ) (by kernel_rfl) trivial ?_
        refine then_normal ?_
        refine awp_cond (decide ((i4 : Int) < (a_list.length : Int))) (by kernel_rfl) (fun hb => ?_) (fun hb => ?_)
        · replace h := cond_t hb h
          clear hb
          refine awp_skip ?_
          refine then_normal ?_
          refine awp_seq ?_
          refine awp_block ?_
          refine awp_seq ?_
          obtain ⟨hc7, h⟩ := chk_some h
          obtain ⟨x8, hx8, h⟩ := bind_some h
          obtain ⟨hc9, h⟩ := chk_some h
          refine awp_region (rs := [⟨[], [(20000, 33)], (AV.list 1 eU8 (0 : Int) x8 (.own 20000)), [(20000, .tok 1 5 x8.length)]⟩]) (cs := [(34, (AV.list 1 eU8 (0 : Int) (l2 ++ x8) (.own 5003)))]) (live := [0, 3, 4, 5]) (names := [5003, 5004]) (st' := (⟨[(0, (AV.list 1 eU32 (0 : Int) a_list .none)), (3, (AV.list 1 eU8 (0 : Int) (l2 ++ x8) (.own 5003))), (4, (AV.list 1 eI64 (0 : Int) l3 (.own 5004))), (5, (.int .i64 i4))], [(5003, .tok 1 5 ((l2 ++ x8).length)), (5004, .tok 1 3 l3.length)]⟩ : St)) (obs := [(InB i4 a_list.length), (Spec Try.prog 9 [(.int .u64 (wu64 (bitsV .and .u32 (a_list.getD (i4).toNat (0 : Int)) (2147483647 : Int))))] [] (AV.list 1 eU8 (0 : Int) x8 (.own 20000)) [(20000, .tok 1 5 x8.length)]), (l2.length = l2.length), (l2.length + x8.length ≤ room), (AVle (.slice 1 (l2.length + x8.length) (appF l2.length (fun i => eU8 (l2.getD i (0 : Int))) (fun i => eU8 (x8.getD i (0 : Int)))) (.own 5003)) (AV.list 1 eU8 (0 : Int) (l2 ++ x8) (.own 5003))), (l2.length + x8.length = (l2 ++ x8).length)]) hn mix (no_hand hΓ) (by kernel_rfl) ⟨hc7, (ok_num_Put (wu64 (bitsV .and .u32 (a_list.getD (i4).toNat (0 : Int)) (2147483647 : Int))) x8 hx8), rfl, hc9, av_app, (len_app _ _), trivial⟩ ?_
          refine then_normal ?_
          obtain ⟨hc10, h⟩ := chk_some h
          obtain ⟨hc11, h⟩ := chk_some h
          refine awp_region (rs := []) (cs := [(42, (AV.list 1 eI64 (0 : Int) ([(w64 (bitsV .and .u32 (a_list.getD (i4).toNat (0 : Int)) (2147483647 : Int)))] : List (Int)) .exact)), (43, (AV.list 1 eI64 (0 : Int) (l3 ++ ([(w64 (bitsV .and .u32 (a_list.getD (i4).toNat (0 : Int)) (2147483647 : Int)))] : List (Int))) (.own 5004)))]) (live := [0, 3, 4, 5]) (names := [5003, 5004]) (st' := (⟨[(0, (AV.list 1 eU32 (0 : Int) a_list .none)), (3, (AV.list 1 eU8 (0 : Int) (l2 ++ x8) (.own 5003))), (4, (AV.list 1 eI64 (0 : Int) (l3 ++ ([(w64 (bitsV .and .u32 (a_list.getD (i4).toNat (0 : Int)) (2147483647 : Int)))] : List (Int))) (.own 5004))), (5, (.int .i64 i4))], [(5003, .tok 1 5 ((l2 ++ x8).length)), (5004, .tok 1 3 ((l3 ++ ([(w64 (bitsV .and .u32 (a_list.getD (i4).toNat (0 : Int)) (2147483647 : Int)))] : List (Int))).length))]⟩ : St)) (obs := [(InB i4 a_list.length), (AVle (.slice 1 1 (fun i => ([[(.int .i64 (w64 (bitsV .and .u32 (a_list.getD (i4).toNat (0 : Int)) (2147483647 : Int))))]] : List (List AV)).getD i []) .exact) (AV.list 1 eI64 (0 : Int) ([(w64 (bitsV .and .u32 (a_list.getD (i4).toNat (0 : Int)) (2147483647 : Int)))] : List (Int)) .exact)), (l3.length = l3.length), (l3.length + ([(w64 (bitsV .and .u32 (a_list.getD (i4).toNat (0 : Int)) (2147483647 : Int)))] : List (Int)).length ≤ room), (AVle (.slice 1 (l3.length + ([(w64 (bitsV .and .u32 (a_list.getD (i4).toNat (0 : Int)) (2147483647 : Int)))] : List (Int)).length) (appF l3.length (fun i => eI64 (l3.getD i (0 : Int))) (fun i => eI64 (([(w64 (bitsV .and .u32 (a_list.getD (i4).toNat (0 : Int)) (2147483647 : Int)))] : List (Int)).getD i (0 : Int)))) (.own 5004)) (AV.list 1 eI64 (0 : Int) (l3 ++ ([(w64 (bitsV .and .u32 (a_list.getD (i4).toNat (0 : Int)) (2147483647 : Int)))] : List (Int))) (.own 5004))), (l3.length + ([(w64 (bitsV .and .u32 (a_list.getD (i4).toNat (0 : Int)) (2147483647 : Int)))] : List (Int)).length = (l3 ++ ([(w64 (bitsV .and .u32 (a_list.getD (i4).toNat (0 : Int)) (2147483647 : Int)))] : List (Int))).length)]) hn mix (no_hand hΓ) (by kernel_rfl) ⟨hc10, (av_lit rfl (fun i hi => map_get (e := eI64) (d := (0 : Int)) ([(w64 (bitsV .and .u32 (a_list.getD (i4).toNat (0 : Int)) (2147483647 : Int)))] : List (Int)) i hi)), rfl, hc11, av_app, (len_app _ _), trivial⟩ ?_
          refine block_normal ?_
          refine then_normal ?_
          refine awp_region (rs := []) (cs := []) (live := [0, 3, 4, 5]) (names := [5003, 5004]) (st' := (⟨[(0, (AV.list 1 eU32 (0 : Int) a_list .none)), (3, (AV.list 1 eU8 (0 : Int) (l2 ++ x8) (.own 5003))), (4, (AV.list 1 eI64 (0 : Int) (l3 ++ ([(w64 (bitsV .and .u32 (a_list.getD (i4).toNat (0 : Int)) (2147483647 : Int)))] : List (Int))) (.own 5004))), (5, (.int .i64 (w64 (i4 + (1 : Int)))))], [(5003, .tok 1 5 ((l2 ++ x8).length)), (5004, .tok 1 3 ((l3 ++ ([(w64 (bitsV .and .u32 (a_list.getD (i4).toNat (0 : Int)) (2147483647 : Int)))] : List (Int))).length))]⟩ : St)) (obs := []) hn mix (no_hand hΓ) (by kernel_rfl) trivial ?_
          obtain rfl := Option.some.inj h
          exact ⟨rfl, Le.refl _ _⟩
        · replace h := cond_f hb h
          clear hb
          refine awp_exit ?_
          refine then_exit ?_
          obtain rfl := Option.some.inj h
          exact ⟨(by intro hh; cases hh), rfl, le_restrict_eq [0, 3, 4] [5003, 5004] (by kernel_rfl) (no_hand hΓ)⟩
      · clear hx12
        rcases x12 with ⟨l5, l6⟩
        rintro e st' ⟨rfl, hl13⟩
        refine block_here ?_
        refine then_normal ?_
        refine awp_le hl13 ?_
        refine awp_seq ?_
        refine awp_region (rs := []) (cs := []) (live := [0, 3, 4, 6]) (names := [5003, 5004]) (st' := (⟨[(0, (AV.list 1 eU32 (0 : Int) a_list .none)), (3, (AV.list 1 eU8 (0 : Int) l5 (.own 5003))), (4, (AV.list 1 eI64 (0 : Int) l6 (.own 5004))), (6, (.int .i64 (0 : Int)))], [(5003, .tok 1 5 l5.length), (5004, .tok 1 3 l6.length)]⟩ : St)) (obs := []) hn mix (no_hand hΓ) (by kernel_rfl) trivial ?_
        refine then_normal ?_
        refine awp_seq ?_
        refine awp_seq ?_
        refine awp_region (rs := []) (cs := []) (live := [0, 3, 4, 6, 7]) (names := [5003, 5004]) (st' := (⟨[(0, (AV.list 1 eU32 (0 : Int) a_list .none)), (3, (AV.list 1 eU8 (0 : Int) l5 (.own 5003))), (4, (AV.list 1 eI64 (0 : Int) l6 (.own 5004))), (6, (.int .i64 (0 : Int))), (7, (.int .i64 (0 : Int)))], [(5003, .tok 1 5 l5.length), (5004, .tok 1 3 l6.length)]⟩ : St)) (obs := []) hn mix (no_hand hΓ) (by kernel_rfl) trivial ?_
        refine then_normal ?_
        refine awp_block ?_
        refine awp_le (st' := (fun ((i14, i15) : (Int × Int)) => (⟨[(0, (AV.list 1 eU32 (0 : Int) a_list .none)), (3, (AV.list 1 eU8 (0 : Int) l5 (.own 5003))), (4, (AV.list 1 eI64 (0 : Int) l6 (.own 5004))), (6, (.int .i64 i14)), (7, (.int .i64 i15))], [(5003, .tok 1 5 l5.length), (5004, .tok 1 3 l6.length)]⟩ : St)) ((0 : Int), (0 : Int))) (Le.refl _ _) ?_
        obtain ⟨x20, hx20, h⟩ := bind_some h
        refine awp_loop (fun ((i14, i15) : (Int × Int)) => (⟨[(0, (AV.list 1 eU32 (0 : Int) a_list .none)), (3, (AV.list 1 eU8 (0 : Int) l5 (.own 5003))), (4, (AV.list 1 eI64 (0 : Int) l6 (.own 5004))), (6, (.int .i64 i14)), (7, (.int .i64 i15))], [(5003, .tok 1 5 l5.length), (5004, .tok 1 3 l6.length)]⟩ : St)) _ (fun (x_ : (Int ⊕ Bool)) (e : Exit) (st : St) => match x_ with | (.inl i16) => e = (.exit 2) ∧ Le Γ st (⟨[(0, (AV.list 1 eU32 (0 : Int) a_list .none)), (3, (AV.list 1 eU8 (0 : Int) l5 (.own 5003))), (4, (AV.list 1 eI64 (0 : Int) l6 (.own 5004))), (6, (.int .i64 i16))], [(5003, .tok 1 5 l5.length), (5004, .tok 1 3 l6.length)]⟩ : St) | (.inr r_) => e = .ret ∧ retK Try.prog Try.f6.results.toList [] (.bool r_) [] e st) ?_ hx20 ?_
        · rintro ⟨i14, i15⟩ y h
          unfold m_locksteplaw02_NumStream_L2 at h
          refine awp_seq ?_
          refine awp_seq ?_
          refine awp_region (rs := []) (cs := []) (live := [0, 3, 4, 6, 7, 47]) (names := [5003, 5004]) (st' := (⟨[(0, (AV.list 1 eU32 (0 : Int) a_list .none)), (3, (AV.list 1 eU8 (0 : Int) l5 (.own 5003))), (4, (AV.list 1 eI64 (0 : Int) l6 (.own 5004))), (6, (.int .i64 i14)), (7, (.int .i64 i15)), (47, (.bool (decide ((i15 : Int) < (a_list.length : Int)))))], [(5003, .tok 1 5 l5.length), (5004, .tok 1 3 l6.length)]⟩ : St)) (obs := []) hn mix (no_hand hΓ) (by kernel_rfl) trivial ?_
          refine then_normal ?_
          refine awp_cond (decide ((i15 : Int) < (a_list.length : Int))) (by kernel_rfl) (fun hb => ?_) (fun hb => ?_)
          · replace h := cond_t hb h
            clear hb
            refine awp_skip ?_
            refine then_normal ?_
            refine awp_seq ?_
            refine awp_block ?_
            refine awp_seq ?_
            obtain ⟨hc17, h⟩ := chk_some h
            obtain ⟨x18, hx18, h⟩ := bind_some h
            refine awp_region (rs := [⟨[], [], (.tuple [(.int .u64 x18.1), (.int .i64 x18.2.1), (.int .i64 x18.2.2)]), []⟩]) (cs := [(53, (AV.list 1 eU8 (0 : Int) (l5.drop (i14).toNat) .none))]) (live := [0, 3, 4, 6, 7, 8, 9, 10]) (names := [5003, 5004]) (st' := (⟨[(0, (AV.list 1 eU32 (0 : Int) a_list .none)), (3, (AV.list 1 eU8 (0 : Int) l5 (.own 5003))), (4, (AV.list 1 eI64 (0 : Int) l6 (.own 5004))), (6, (.int .i64 i14)), (7, (.int .i64 i15)), (8, (.int .u64 x18.1)), (9, (.int .i64 x18.2.1)), (10, (.int .i64 x18.2.2))], [(5003, .tok 1 5 l5.length), (5004, .tok 1 3 l6.length)]⟩ : St)) (obs := [(0 ≤ i14 ∧ i14 ≤ (l5.length : Int)), (AVle (.slice 1 (l5.length - (i14).toNat) (fun i => eU8 (l5.getD ((i14).toNat + i) (0 : Int))) .none) (AV.list 1 eU8 (0 : Int) (l5.drop (i14).toNat) .none)), (Spec Try.prog 10 [(AV.list 1 eU8 (0 : Int) (l5.drop (i14).toNat) .none)] [] (.tuple [(.int .u64 x18.1), (.int .i64 x18.2.1), (.int .i64 x18.2.2)]) [])]) hn mix (no_hand hΓ) (by kernel_rfl) ⟨hc17, av_drop, (ok_num_Get (l5.drop (i14).toNat) x18 hx18), trivial⟩ ?_
            refine then_normal ?_
            refine awp_seq ?_
            refine awp_seq ?_
            obtain ⟨hc19, h⟩ := chk_some h
            refine awp_region (rs := []) (cs := []) (live := [0, 3, 4, 6, 7, 9, 68]) (names := [5003, 5004]) (st' := (⟨[(0, (AV.list 1 eU32 (0 : Int) a_list .none)), (3, (AV.list 1 eU8 (0 : Int) l5 (.own 5003))), (4, (AV.list 1 eI64 (0 : Int) l6 (.own 5004))), (6, (.int .i64 i14)), (7, (.int .i64 i15)), (9, (.int .i64 x18.2.1)), (68, (.bool (bif ((x18.2.2 : Int) != (0 : Int)) then true else ((x18.1 : Int) != (wu64 (l6.getD (i15).toNat (0 : Int)))))))], [(5003, .tok 1 5 l5.length), (5004, .tok 1 3 l6.length)]⟩ : St)) (obs := [((((x18.2.2 : Int) != (0 : Int)) == false) = true → (((x18.2.2 : Int) != (0 : Int)) == false) = true), ((((x18.2.2 : Int) != (0 : Int)) == false) = true → (((x18.2.2 : Int) != (0 : Int)) == false) = true), ((((x18.2.2 : Int) != (0 : Int)) == false) = true → (InB i15 l6.length)), ((((x18.2.2 : Int) != (0 : Int)) == false) = true → (((x18.2.2 : Int) != (0 : Int)) == false) = true), ((((x18.2.2 : Int) != (0 : Int)) == false) = true → (((x18.2.2 : Int) != (0 : Int)) == false) = true), ((((x18.2.2 : Int) != (0 : Int)) == false) = true → (((x18.2.2 : Int) != (0 : Int)) == false) = true), ((((x18.2.2 : Int) != (0 : Int)) == false) = true → (((x18.2.2 : Int) != (0 : Int)) == false) = true), (((x18.2.2 : Int) != (0 : Int)) = false → (((x18.2.2 : Int) != (0 : Int)) == false) = true)]) hn mix (no_hand hΓ) (by kernel_rfl) ⟨(fun hg => hg), (fun hg => hg), (fun hg => (hc19 hg)), (fun hg => hg), (fun hg => hg), (fun hg => hg), (fun hg => hg), (fun hp => by rw [hp]; rfl), trivial⟩ ?_
            refine then_normal ?_
            refine awp_cond (bif ((x18.2.2 : Int) != (0 : Int)) then true else ((x18.1 : Int) != (wu64 (l6.getD (i15).toNat (0 : Int))))) (by kernel_rfl) (fun hb => ?_) (fun hb => ?_)
            · replace h := cond_t hb h
              clear hb
              refine awp_seq ?_
              refine awp_region (rs := []) (cs := []) (live := [2]) (names := []) (st' := (⟨[(2, (.bool false))], []⟩ : St)) (obs := []) hn mix (no_hand hΓ) (by kernel_rfl) trivial ?_
              refine then_normal ?_
              refine awp_ret ?_
              refine then_ret ?_
              refine block_ret ?_
              refine then_ret ?_
              obtain rfl := Option.some.inj h
              exact ⟨(by intro hh; cases hh), rfl, ⟨.inl rfl, [], by kernel_rfl⟩⟩
            · replace h := cond_f hb h
              clear hb
              refine awp_skip ?_
              refine then_normal ?_
              refine awp_region (rs := []) (cs := []) (live := [0, 3, 4, 6, 7]) (names := [5003, 5004]) (st' := (⟨[(0, (AV.list 1 eU32 (0 : Int) a_list .none)), (3, (AV.list 1 eU8 (0 : Int) l5 (.own 5003))), (4, (AV.list 1 eI64 (0 : Int) l6 (.own 5004))), (6, (.int .i64 (w64 (i14 + x18.2.1)))), (7, (.int .i64 i15))], [(5003, .tok 1 5 l5.length), (5004, .tok 1 3 l6.length)]⟩ : St)) (obs := []) hn mix (no_hand hΓ) (by kernel_rfl) trivial ?_
              refine block_normal ?_
              refine then_normal ?_
              refine awp_region (rs := []) (cs := []) (live := [0, 3, 4, 6, 7]) (names := [5003, 5004]) (st' := (⟨[(0, (AV.list 1 eU32 (0 : Int) a_list .none)), (3, (AV.list 1 eU8 (0 : Int) l5 (.own 5003))), (4, (AV.list 1 eI64 (0 : Int) l6 (.own 5004))), (6, (.int .i64 (w64 (i14 + x18.2.1)))), (7, (.int .i64 (w64 (i15 + (1 : Int)))))], [(5003, .tok 1 5 l5.length), (5004, .tok 1 3 l6.length)]⟩ : St)) (obs := []) hn mix (no_hand hΓ) (by kernel_rfl) trivial ?_
              obtain rfl := Option.some.inj h
              exact ⟨rfl, Le.refl _ _⟩
          · replace h := cond_f hb h
            clear hb
            refine awp_exit ?_
            refine then_exit ?_
            obtain rfl := Option.some.inj h
            exact ⟨(by intro hh; cases hh), rfl, le_restrict_eq [0, 3, 4, 6] [5003, 5004] (by kernel_rfl) (no_hand hΓ)⟩
        · clear hx20
          rcases x20 with i16 | r28
          · rintro e st' ⟨rfl, hl21⟩
            refine block_here ?_
            refine then_normal ?_
            refine awp_le hl21 ?_
            refine awp_seq ?_
            obtain ⟨x22, hx22, h⟩ := bind_some h
            obtain ⟨hc23, h⟩ := chk_some h
            refine awp_region (rs := [⟨[], [(20000, 75)], (AV.list 1 eU8 (0 : Int) x22 (.own 20000)), [(20000, .tok 1 5 x22.length)]⟩]) (cs := [(77, (AV.list 1 eU8 (0 : Int) (x22 ++ l5) (.own 75)))]) (live := [3, 4, 6, 11]) (names := [75, 5003, 5004]) (st' := (⟨[(3, (AV.list 1 eU8 (0 : Int) l5 (.own 5003))), (4, (AV.list 1 eI64 (0 : Int) l6 (.own 5004))), (6, (.int .i64 i16)), (11, (AV.list 1 eU8 (0 : Int) (x22 ++ l5) (.own 75)))], [(75, .tok 1 5 ((x22 ++ l5).length)), (5003, .tok 1 5 l5.length), (5004, .tok 1 3 l6.length)]⟩ : St)) (obs := [(Spec Try.prog 9 [(.int .u64 (wu64 (a_list.length : Int)))] [] (AV.list 1 eU8 (0 : Int) x22 (.own 20000)) [(20000, .tok 1 5 x22.length)]), (x22.length = x22.length), (x22.length + l5.length ≤ room), (AVle (.slice 1 (x22.length + l5.length) (appF x22.length (fun i => eU8 (x22.getD i (0 : Int))) (fun i => eU8 (l5.getD i (0 : Int)))) (.own 75)) (AV.list 1 eU8 (0 : Int) (x22 ++ l5) (.own 75))), (x22.length + l5.length = (x22 ++ l5).length)]) hn mix (no_hand hΓ) (by kernel_rfl) ⟨(ok_num_Put (wu64 (a_list.length : Int)) x22 hx22), rfl, hc23, av_app, (len_app _ _), trivial⟩ ?_
            refine then_normal ?_
            refine awp_seq ?_
            obtain ⟨x24, hx24, h⟩ := bind_some h
            refine awp_region (rs := [⟨[], [(20000, 80)], (.tuple [(AV.list 1 eI64 (0 : Int) x24.1 (.own 20000)), (.int .i64 x24.2.1), (.int .i64 x24.2.2)]), [(20000, .tok 1 3 x24.1.length)]⟩]) (cs := []) (live := [3, 4, 6, 11, 12, 13, 14]) (names := [75, 80, 5003, 5004]) (st' := (⟨[(3, (AV.list 1 eU8 (0 : Int) l5 (.own 5003))), (4, (AV.list 1 eI64 (0 : Int) l6 (.own 5004))), (6, (.int .i64 i16)), (11, (AV.list 1 eU8 (0 : Int) (x22 ++ l5) (.own 75))), (12, (AV.list 1 eI64 (0 : Int) x24.1 (.own 80))), (13, (.int .i64 x24.2.1)), (14, (.int .i64 x24.2.2))], [(75, .tok 1 5 ((x22 ++ l5).length)), (80, .tok 1 3 x24.1.length), (5003, .tok 1 5 l5.length), (5004, .tok 1 3 l6.length)]⟩ : St)) (obs := [(Spec Try.prog 15 [(AV.list 1 eU8 (0 : Int) (x22 ++ l5) .none), (.int .i64 (100 : Int))] [] (.tuple [(AV.list 1 eI64 (0 : Int) x24.1 (.own 20000)), (.int .i64 x24.2.1), (.int .i64 x24.2.2)]) [(20000, .tok 1 3 x24.1.length)])]) hn mix (no_hand hΓ) (by kernel_rfl) ⟨(ok_num_List (x22 ++ l5) (100 : Int) x24 hx24), trivial⟩ ?_
            refine then_normal ?_
            refine awp_seq ?_
            obtain ⟨x25, hx25, h⟩ := bind_some h
            obtain ⟨x26, hx26, h⟩ := bind_some h
            obtain ⟨x27, hx27, h⟩ := bind_some h
            refine awp_region (rs := [⟨[], [], (.bool x25), []⟩, ⟨[], [], (AV.list 1 eU8 (0 : Int) x26 .none), []⟩, ⟨[], [], (.bool x27), []⟩]) (cs := []) (live := [2]) (names := []) (st' := (⟨[(2, (.bool (bif (bif (bif (bif ((i16 : Int) == (l5.length : Int)) then ((x24.2.2 : Int) == (0 : Int)) else false) then ((x24.2.1 : Int) == ((x22 ++ l5).length : Int)) else false) then x25 else false) then x27 else false)))], []⟩ : St)) (obs := [((((i16 : Int) == (l5.length : Int)) == true) = true → (((i16 : Int) == (l5.length : Int)) == true) = true), (((i16 : Int) == (l5.length : Int)) = true → (((i16 : Int) == (l5.length : Int)) == true) = true), (((bif ((i16 : Int) == (l5.length : Int)) then ((x24.2.2 : Int) == (0 : Int)) else false) == true) = true → ((bif ((i16 : Int) == (l5.length : Int)) then ((x24.2.2 : Int) == (0 : Int)) else false) == true) = true), (((bif ((i16 : Int) == (l5.length : Int)) then ((x24.2.2 : Int) == (0 : Int)) else false) == true) = true → ((bif ((i16 : Int) == (l5.length : Int)) then ((x24.2.2 : Int) == (0 : Int)) else false) == true) = true), (((bif ((i16 : Int) == (l5.length : Int)) then ((x24.2.2 : Int) == (0 : Int)) else false) == true) = true → ((bif ((i16 : Int) == (l5.length : Int)) then ((x24.2.2 : Int) == (0 : Int)) else false) == true) = true), ((bif ((i16 : Int) == (l5.length : Int)) then ((x24.2.2 : Int) == (0 : Int)) else false) = true → ((bif ((i16 : Int) == (l5.length : Int)) then ((x24.2.2 : Int) == (0 : Int)) else false) == true) = true), (((bif (bif ((i16 : Int) == (l5.length : Int)) then ((x24.2.2 : Int) == (0 : Int)) else false) then ((x24.2.1 : Int) == ((x22 ++ l5).length : Int)) else false) == true) = true → ((bif (bif ((i16 : Int) == (l5.length : Int)) then ((x24.2.2 : Int) == (0 : Int)) else false) then ((x24.2.1 : Int) == ((x22 ++ l5).length : Int)) else false) == true) = true), (((bif (bif ((i16 : Int) == (l5.length : Int)) then ((x24.2.2 : Int) == (0 : Int)) else false) then ((x24.2.1 : Int) == ((x22 ++ l5).length : Int)) else false) == true) = true → ((bif (bif ((i16 : Int) == (l5.length : Int)) then ((x24.2.2 : Int) == (0 : Int)) else false) then ((x24.2.1 : Int) == ((x22 ++ l5).length : Int)) else false) == true) = true), (((bif (bif ((i16 : Int) == (l5.length : Int)) then ((x24.2.2 : Int) == (0 : Int)) else false) then ((x24.2.1 : Int) == ((x22 ++ l5).length : Int)) else false) == true) = true → (Spec Try.prog 16 [(AV.list 1 eI64 (0 : Int) x24.1 .none), (AV.list 1 eI64 (0 : Int) l6 .none)] [] (.bool x25) [])), ((bif (bif ((i16 : Int) == (l5.length : Int)) then ((x24.2.2 : Int) == (0 : Int)) else false) then ((x24.2.1 : Int) == ((x22 ++ l5).length : Int)) else false) = true → ((bif (bif ((i16 : Int) == (l5.length : Int)) then ((x24.2.2 : Int) == (0 : Int)) else false) then ((x24.2.1 : Int) == ((x22 ++ l5).length : Int)) else false) == true) = true), (((bif (bif (bif ((i16 : Int) == (l5.length : Int)) then ((x24.2.2 : Int) == (0 : Int)) else false) then ((x24.2.1 : Int) == ((x22 ++ l5).length : Int)) else false) then x25 else false) == true) = true → ((bif (bif (bif ((i16 : Int) == (l5.length : Int)) then ((x24.2.2 : Int) == (0 : Int)) else false) then ((x24.2.1 : Int) == ((x22 ++ l5).length : Int)) else false) then x25 else false) == true) = true), (((bif (bif (bif ((i16 : Int) == (l5.length : Int)) then ((x24.2.2 : Int) == (0 : Int)) else false) then ((x24.2.1 : Int) == ((x22 ++ l5).length : Int)) else false) then x25 else false) == true) = true → (Spec Try.prog 13 [(AV.list 1 eI64 (0 : Int) l6 .none)] [] (AV.list 1 eU8 (0 : Int) x26 .none) [])), (((bif (bif (bif ((i16 : Int) == (l5.length : Int)) then ((x24.2.2 : Int) == (0 : Int)) else false) then ((x24.2.1 : Int) == ((x22 ++ l5).length : Int)) else false) then x25 else false) == true) = true → ((bif (bif (bif ((i16 : Int) == (l5.length : Int)) then ((x24.2.2 : Int) == (0 : Int)) else false) then ((x24.2.1 : Int) == ((x22 ++ l5).length : Int)) else false) then x25 else false) == true) = true), (((bif (bif (bif ((i16 : Int) == (l5.length : Int)) then ((x24.2.2 : Int) == (0 : Int)) else false) then ((x24.2.1 : Int) == ((x22 ++ l5).length : Int)) else false) then x25 else false) == true) = true → ((bif (bif (bif ((i16 : Int) == (l5.length : Int)) then ((x24.2.2 : Int) == (0 : Int)) else false) then ((x24.2.1 : Int) == ((x22 ++ l5).length : Int)) else false) then x25 else false) == true) = true), (((bif (bif (bif ((i16 : Int) == (l5.length : Int)) then ((x24.2.2 : Int) == (0 : Int)) else false) then ((x24.2.1 : Int) == ((x22 ++ l5).length : Int)) else false) then x25 else false) == true) = true → (Spec Try.prog 11 [(AV.list 1 eU8 (0 : Int) x26 .none), (AV.list 1 eU8 (0 : Int) (x22 ++ l5) .none)] [] (.bool x27) [])), ((bif (bif (bif ((i16 : Int) == (l5.length : Int)) then ((x24.2.2 : Int) == (0 : Int)) else false) then ((x24.2.1 : Int) == ((x22 ++ l5).length : Int)) else false) then x25 else false) = true → ((bif (bif (bif ((i16 : Int) == (l5.length : Int)) then ((x24.2.2 : Int) == (0 : Int)) else false) then ((x24.2.1 : Int) == ((x22 ++ l5).length : Int)) else false) then x25 else false) == true) = true)]) hn mix (no_hand hΓ) (by kernel_rfl) ⟨(fun hg => hg), (fun hp => by rw [hp]; rfl), (fun hg => hg), (fun hg => hg), (fun hg => hg), (fun hp => by rw [hp]; rfl), (fun hg => hg), (fun hg => hg), (fun hg => (ok_lockstepref02_Ints x24.1 l6 x25 (cond_t hg hx25))), (fun hp => by rw [hp]; rfl), (fun hg => hg), (fun hg => (Spec.drop (ok_num_Row l6 x26 (cond_t hg hx26)))), (fun hg => hg), (fun hg => hg), (fun hg => (ok_lockstepref02_Same x26 (x22 ++ l5) x27 (cond_t hg hx27))), (fun hp => by rw [hp]; rfl), trivial⟩ ?_
            refine then_normal ?_
            refine awp_ret ?_
            obtain rfl := Option.some.inj h
            exact ⟨.inl rfl, [], by kernel_rfl⟩
          · rintro e st' ⟨rfl, hk⟩
            refine block_ret ?_
            refine then_ret ?_
            obtain rfl := Option.some.inj h
            exact hk

noncomputable def m_locksteplaw02_NumTwice (a_v : Int) (a_p1 : Int) : Option Bool :=
  ((m_locksteplaw02_awake).bind fun x1 => (bif (!x1) then (some false) else ((m_num_Put a_v).bind fun x2 => (bif (((x2.length : Int) : Int) == (0 : Int)) then (some false) else (chk (x2.length ≤ room) (chk (InB (w64 ((x2.length : Int) - (1 : Int))) x2.length) (chk (InB (w64 ((x2.length : Int) - (1 : Int))) x2.length) ((m_num_Get (x2.set ((w64 ((x2.length : Int) - (1 : Int)))).toNat (bitsV .or .u8 (x2.getD ((w64 ((x2.length : Int) - (1 : Int)))).toNat (0 : Int)) (128 : Int)))).bind fun x6 => (chk (([] : List Int).length + (x2.set ((w64 ((x2.length : Int) - (1 : Int)))).toNat (bitsV .or .u8 (x2.getD ((w64 ((x2.length : Int) - (1 : Int)))).toNat (0 : Int)) (128 : Int))).length ≤ room) (chk ((([] : List Int) ++ (x2.set ((w64 ((x2.length : Int) - (1 : Int)))).toNat (bitsV .or .u8 (x2.getD ((w64 ((x2.length : Int) - (1 : Int)))).toNat (0 : Int)) (128 : Int)))).length + ([(0 : Int)] : List (Int)).length ≤ room) ((m_num_Get ((([] : List Int) ++ (x2.set ((w64 ((x2.length : Int) - (1 : Int)))).toNat (bitsV .or .u8 (x2.getD ((w64 ((x2.length : Int) - (1 : Int)))).toNat (0 : Int)) (128 : Int)))) ++ ([(0 : Int)] : List (Int)))).bind fun x9 => (chk ((x2.length : Int) ≠ 0) (chk (x2.length ≤ room) (chk (InB (Int.tmod (w64 a_p1) (x2.length : Int)) x2.length) (chk (InB (Int.tmod (w64 a_p1) (x2.length : Int)) x2.length) ((m_num_Get (x2.set ((Int.tmod (w64 a_p1) (x2.length : Int))).toNat (bitsV .xor .u8 (x2.getD ((Int.tmod (w64 a_p1) (x2.length : Int))).toNat (0 : Int)) (1 : Int)))).bind fun x14 => (some (bif (bif ((x6.2.2 : Int) != (0 : Int)) then ((x9.2.2 : Int) == (3 : Int)) else false) then (bif ((x14.2.2 : Int) != (0 : Int)) then true else (bif ((x14.2.1 : Int) == (x2.length : Int)) then ((x14.1 : Int) != a_v) else false)) else false))))))))))))))))))
theorem ok_locksteplaw02_NumTwice (a_v : Int) (a_p1 : Int) (r : Bool) (h : m_locksteplaw02_NumTwice a_v a_p1 = some r) : Spec Try.prog 7 [(.int .u64 a_v), (.int .u8 a_p1)] [] (.bool r) [] := by
  refine spec_of_awp (fn := Try.f7) Try.func7 rfl rfl (by kernel_rfl) (fun Γ hn hΓ => ?_)
  have hn : Γ.n = 99 := hn
  unfold m_locksteplaw02_NumTwice at h
  refine awp_seq ?_
  refine awp_region (rs := []) (cs := []) (live := [0, 1]) (names := []) (st' := (⟨[(0, (.int .u64 a_v)), (1, (.int .u8 a_p1))], []⟩ : St)) (obs := []) hn mix (no_hand hΓ) (by kernel_rfl) trivial ?_
  refine then_normal ?_
  refine awp_seq ?_
  refine awp_seq ?_
  obtain ⟨x1, hx1, h⟩ := bind_some h
  refine awp_region (rs := [⟨[], [], (.bool x1), []⟩]) (cs := []) (live := [0, 1, 19]) (names := []) (st' := (⟨[(0, (.int .u64 a_v)), (1, (.int .u8 a_p1)), (19, (.bool (!x1)))], []⟩ : St)) (obs := [(Spec Try.prog 8 [] [] (.bool x1) [])]) hn mix (no_hand hΓ) (by kernel_rfl) ⟨(ok_locksteplaw02_awake  x1 hx1), trivial⟩ ?_
  refine then_normal ?_
  refine awp_cond (!x1) (by kernel_rfl) (fun hb => ?_) (fun hb => ?_)
  · replace h := cond_t hb h
    clear hb
    refine awp_seq ?_
    refine awp_region (rs := []) (cs := []) (live := [4]) (names := []) (st' := (⟨[(4, (.bool false))], []⟩ : St)) (obs := []) hn mix (no_hand hΓ) (by kernel_rfl) trivial ?_
    refine then_normal ?_
    refine awp_ret ?_
    refine then_ret ?_
    obtain rfl := Option.some.inj h
    exact ⟨.inl rfl, [], by kernel_rfl⟩
  · replace h := cond_f hb h
    clear hb
    refine awp_skip ?_
    refine then_normal ?_
    refine awp_seq ?_
    obtain ⟨x2, hx2, h⟩ := bind_some h
    refine awp_region (rs := [⟨[], [(20000, 21)], (AV.list 1 eU8 (0 : Int) x2 (.own 20000)), [(20000, .tok 1 5 x2.length)]⟩]) (cs := []) (live := [0, 1, 5]) (names := [21]) (st' := (⟨[(0, (.int .u64 a_v)), (1, (.int .u8 a_p1)), (5, (AV.list 1 eU8 (0 : Int) x2 (.own 21)))], [(21, .tok 1 5 x2.length)]⟩ : St)) (obs := [(Spec Try.prog 9 [(.int .u64 a_v)] [] (AV.list 1 eU8 (0 : Int) x2 (.own 20000)) [(20000, .tok 1 5 x2.length)])]) hn mix (no_hand hΓ) (by kernel_rfl) ⟨(ok_num_Put a_v x2 hx2), trivial⟩ ?_
    refine then_normal ?_
    refine awp_seq ?_
    refine awp_seq ?_
    refine awp_region (rs := []) (cs := []) (live := [0, 1, 5, 24]) (names := [21]) (st' := (⟨[(0, (.int .u64 a_v)), (1, (.int .u8 a_p1)), (5, (AV.list 1 eU8 (0 : Int) x2 (.own 21))), (24, (.bool (((x2.length : Int) : Int) == (0 : Int))))], [(21, .tok 1 5 x2.length)]⟩ : St)) (obs := []) hn mix (no_hand hΓ) (by kernel_rfl) trivial ?_
    refine then_normal ?_
    refine awp_cond (((x2.length : Int) : Int) == (0 : Int)) (by kernel_rfl) (fun hb => ?_) (fun hb => ?_)
    · replace h := cond_t hb h
      clear hb
      refine awp_seq ?_
      refine awp_region (rs := []) (cs := []) (live := [4]) (names := []) (st' := (⟨[(4, (.bool false))], []⟩ : St)) (obs := []) hn mix (no_hand hΓ) (by kernel_rfl) trivial ?_
      refine then_normal ?_
      refine awp_ret ?_
      refine then_ret ?_
      obtain rfl := Option.some.inj h
      exact ⟨.inl rfl, [], by kernel_rfl⟩
    · replace h := cond_f hb h
      clear hb
      refine awp_skip ?_
      refine then_normal ?_
      refine awp_seq ?_
      obtain ⟨hc3, h⟩ := chk_some h
      refine awp_region (rs := []) (cs := [(25, (AV.list 1 eU8 (0 : Int) ([] : List Int) .exact)), (27, .vsl 27 0)]) (live := [0, 1, 5, 6]) (names := [21, 27]) (st' := (⟨[(0, (.int .u64 a_v)), (1, (.int .u8 a_p1)), (5, (AV.list 1 eU8 (0 : Int) x2 (.own 21))), (6, (.vsl 27 x2.length))], [(21, .tok 1 5 x2.length), (27, .arr 1 5 x2.length (fun i => eU8 (x2.getD i (0 : Int))))]⟩ : St)) (obs := [(AVle (.slice 1 0 (fun i => ([] : List (List AV)).getD i []) .exact) (AV.list 1 eU8 (0 : Int) ([] : List Int) .exact)), (x2.length ≤ room)]) hn mix (no_hand hΓ) (by kernel_rfl) ⟨av_lit rfl (fun i hi => absurd hi (Nat.not_lt_zero i)), hc3, trivial⟩ ?_
      refine then_normal ?_
      refine awp_seq ?_
      obtain ⟨hc4, h⟩ := chk_some h
      obtain ⟨hc5, h⟩ := chk_some h
      refine awp_region (rs := []) (cs := []) (live := [0, 1, 5, 6]) (names := [21, 27]) (st' := (⟨[(0, (.int .u64 a_v)), (1, (.int .u8 a_p1)), (5, (AV.list 1 eU8 (0 : Int) x2 (.own 21))), (6, (.vsl 27 x2.length))], [(21, .tok 1 5 x2.length), (27, .arr 1 5 x2.length (fun i_ => AV.eraseAll (fun n_ => memB n_ [21, 27]) ((putF (fun i => eU8 (x2.getD i (0 : Int))) ((w64 ((x2.length : Int) - (1 : Int)))).toNat 0 [(.int .u8 (bitsV .or .u8 (x2.getD ((w64 ((x2.length : Int) - (1 : Int)))).toNat (0 : Int)) (128 : Int)))]) i_)))]⟩ : St)) (obs := [(InB (w64 ((x2.length : Int) - (1 : Int))) x2.length), (x2.length = x2.length), (InB (w64 ((x2.length : Int) - (1 : Int))) x2.length), (x2.length = x2.length)]) hn mix (no_hand hΓ) (by kernel_rfl) ⟨hc4, rfl, hc5, rfl, trivial⟩ ?_
      refine then_normal ?_
      refine awp_le (Le.trans (le_of (st' := (⟨[(0, (.int .u64 a_v)), (1, (.int .u8 a_p1)), (5, (AV.list 1 eU8 (0 : Int) x2 (.own 21))), (6, (.vsl 27 x2.length))], [(21, .tok 1 5 x2.length), (27, .arr 1 5 x2.length (fun i => eU8 ((x2.set ((w64 ((x2.length : Int) - (1 : Int)))).toNat (bitsV .or .u8 (x2.getD ((w64 ((x2.length : Int) - (1 : Int)))).toNat (0 : Int)) (128 : Int))).getD i (0 : Int))))]⟩ : St)) (TmpsLe.refl _) (.same (.arr (leL_of_eq (List.length_set ..).symm (fun k_ hk_ => (congrArg (AV.eraseAll (fun n_ => memB n_ [21, 27])) ((putF_set (fun _ _ => rfl) (by have hq := hc5; unfold InB at hq; first | omega | (simp only [List.length_set] at hq ⊢; omega)) rfl) k_ hk_)).trans rfl)) .nil))) (le_eq (congrArg (fun k_ : Nat => (⟨[(0, (.int .u64 a_v)), (1, (.int .u8 a_p1)), (5, (AV.list 1 eU8 (0 : Int) x2 (.own 21))), (6, (.vsl 27 k_))], [(21, .tok 1 5 x2.length), (27, .arr 1 5 k_ (fun i => eU8 ((x2.set ((w64 ((x2.length : Int) - (1 : Int)))).toNat (bitsV .or .u8 (x2.getD ((w64 ((x2.length : Int) - (1 : Int)))).toNat (0 : Int)) (128 : Int))).getD i (0 : Int))))]⟩ : St)) (show x2.length = (x2.set ((w64 ((x2.length : Int) - (1 : Int)))).toNat (bitsV .or .u8 (x2.getD ((w64 ((x2.length : Int) - (1 : Int)))).toNat (0 : Int)) (128 : Int))).length from (List.length_set ..).symm)))) ?_
      refine awp_seq ?_
      refine awp_le (Le.trans (le_freeze (nm := 27) (sz := 1) (n := ((x2.set ((w64 ((x2.length : Int) - (1 : Int)))).toNat (bitsV .or .u8 (x2.getD ((w64 ((x2.length : Int) - (1 : Int)))).toNat (0 : Int)) (128 : Int))).length)) (e := 5) (f := (fun i => eU8 ((x2.set ((w64 ((x2.length : Int) - (1 : Int)))).toNat (bitsV .or .u8 (x2.getD ((w64 ((x2.length : Int) - (1 : Int)))).toNat (0 : Int)) (128 : Int))).getD i (0 : Int)))) (f' := (fun i => eU8 ((x2.set ((w64 ((x2.length : Int) - (1 : Int)))).toNat (bitsV .or .u8 (x2.getD ((w64 ((x2.length : Int) - (1 : Int)))).toNat (0 : Int)) (128 : Int))).getD i (0 : Int)))) [6] rfl (.cons rfl .nil) (fun _ _ => rfl) (by rw [hΓ]; rfl)) (le_eq (st' := (⟨[(0, (.int .u64 a_v)), (1, (.int .u8 a_p1)), (5, (AV.list 1 eU8 (0 : Int) x2 (.own 21))), (6, (AV.list 1 eU8 (0 : Int) (x2.set ((w64 ((x2.length : Int) - (1 : Int)))).toNat (bitsV .or .u8 (x2.getD ((w64 ((x2.length : Int) - (1 : Int)))).toNat (0 : Int)) (128 : Int))) (.own 27)))], [(21, .tok 1 5 x2.length), (27, .tok 1 5 ((x2.set ((w64 ((x2.length : Int) - (1 : Int)))).toNat (bitsV .or .u8 (x2.getD ((w64 ((x2.length : Int) - (1 : Int)))).toNat (0 : Int)) (128 : Int))).length))]⟩ : St)) (by kernel_rfl))) ?_
      obtain ⟨x6, hx6, h⟩ := bind_some h
      refine awp_region (rs := [⟨[], [], (.tuple [(.int .u64 x6.1), (.int .i64 x6.2.1), (.int .i64 x6.2.2)]), []⟩]) (cs := []) (live := [0, 1, 5, 6, 9]) (names := [21, 27]) (st' := (⟨[(0, (.int .u64 a_v)), (1, (.int .u8 a_p1)), (5, (AV.list 1 eU8 (0 : Int) x2 (.own 21))), (6, (AV.list 1 eU8 (0 : Int) (x2.set ((w64 ((x2.length : Int) - (1 : Int)))).toNat (bitsV .or .u8 (x2.getD ((w64 ((x2.length : Int) - (1 : Int)))).toNat (0 : Int)) (128 : Int))) (.own 27))), (9, (.int .i64 x6.2.2))], [(21, .tok 1 5 x2.length), (27, .tok 1 5 ((x2.set ((w64 ((x2.length : Int) - (1 : Int)))).toNat (bitsV .or .u8 (x2.getD ((w64 ((x2.length : Int) - (1 : Int)))).toNat (0 : Int)) (128 : Int))).length))]⟩ : St)) (obs := [(Spec Try.prog 10 [(AV.list 1 eU8 (0 : Int) (x2.set ((w64 ((x2.length : Int) - (1 : Int)))).toNat (bitsV .or .u8 (x2.getD ((w64 ((x2.length : Int) - (1 : Int)))).toNat (0 : Int)) (128 : Int))) .none)] [] (.tuple [(.int .u64 x6.1), (.int .i64 x6.2.1), (.int .i64 x6.2.2)]) [])]) hn mix (no_hand hΓ) (by kernel_rfl) ⟨(ok_num_Get (x2.set ((w64 ((x2.length : Int) - (1 : Int)))).toNat (bitsV .or .u8 (x2.getD ((w64 ((x2.length : Int) - (1 : Int)))).toNat (0 : Int)) (128 : Int))) x6 hx6), trivial⟩ ?_
      refine then_normal ?_
      refine awp_seq ?_
      obtain ⟨hc7, h⟩ := chk_some h
      obtain ⟨hc8, h⟩ := chk_some h
      obtain ⟨x9, hx9, h⟩ := bind_some h
      refine awp_region (rs := [⟨[], [], (.tuple [(.int .u64 x9.1), (.int .i64 x9.2.1), (.int .i64 x9.2.2)]), []⟩]) (cs := [(47, (AV.list 1 eU8 (0 : Int) ([] : List Int) .exact)), (49, (AV.list 1 eU8 (0 : Int) (([] : List Int) ++ (x2.set ((w64 ((x2.length : Int) - (1 : Int)))).toNat (bitsV .or .u8 (x2.getD ((w64 ((x2.length : Int) - (1 : Int)))).toNat (0 : Int)) (128 : Int)))) (.own 49))), (50, (AV.list 1 eU8 (0 : Int) ([(0 : Int)] : List (Int)) .exact)), (51, (AV.list 1 eU8 (0 : Int) ((([] : List Int) ++ (x2.set ((w64 ((x2.length : Int) - (1 : Int)))).toNat (bitsV .or .u8 (x2.getD ((w64 ((x2.length : Int) - (1 : Int)))).toNat (0 : Int)) (128 : Int)))) ++ ([(0 : Int)] : List (Int))) (.own 49)))]) (live := [0, 1, 5, 9, 12]) (names := [21]) (st' := (⟨[(0, (.int .u64 a_v)), (1, (.int .u8 a_p1)), (5, (AV.list 1 eU8 (0 : Int) x2 (.own 21))), (9, (.int .i64 x6.2.2)), (12, (.int .i64 x9.2.2))], [(21, .tok 1 5 x2.length)]⟩ : St)) (obs := [(AVle (.slice 1 0 (fun i => ([] : List (List AV)).getD i []) .exact) (AV.list 1 eU8 (0 : Int) ([] : List Int) .exact)), (([] : List Int).length + (x2.set ((w64 ((x2.length : Int) - (1 : Int)))).toNat (bitsV .or .u8 (x2.getD ((w64 ((x2.length : Int) - (1 : Int)))).toNat (0 : Int)) (128 : Int))).length ≤ room), (AVle (.slice 1 (([] : List Int).length + (x2.set ((w64 ((x2.length : Int) - (1 : Int)))).toNat (bitsV .or .u8 (x2.getD ((w64 ((x2.length : Int) - (1 : Int)))).toNat (0 : Int)) (128 : Int))).length) (appF ([] : List Int).length (fun i => eU8 (([] : List Int).getD i (0 : Int))) (fun i => eU8 ((x2.set ((w64 ((x2.length : Int) - (1 : Int)))).toNat (bitsV .or .u8 (x2.getD ((w64 ((x2.length : Int) - (1 : Int)))).toNat (0 : Int)) (128 : Int))).getD i (0 : Int)))) (.own 49)) (AV.list 1 eU8 (0 : Int) (([] : List Int) ++ (x2.set ((w64 ((x2.length : Int) - (1 : Int)))).toNat (bitsV .or .u8 (x2.getD ((w64 ((x2.length : Int) - (1 : Int)))).toNat (0 : Int)) (128 : Int)))) (.own 49))), (([] : List Int).length + (x2.set ((w64 ((x2.length : Int) - (1 : Int)))).toNat (bitsV .or .u8 (x2.getD ((w64 ((x2.length : Int) - (1 : Int)))).toNat (0 : Int)) (128 : Int))).length = (([] : List Int) ++ (x2.set ((w64 ((x2.length : Int) - (1 : Int)))).toNat (bitsV .or .u8 (x2.getD ((w64 ((x2.length : Int) - (1 : Int)))).toNat (0 : Int)) (128 : Int)))).length), (AVle (.slice 1 1 (fun i => ([[(.int .u8 (0 : Int))]] : List (List AV)).getD i []) .exact) (AV.list 1 eU8 (0 : Int) ([(0 : Int)] : List (Int)) .exact)), ((([] : List Int) ++ (x2.set ((w64 ((x2.length : Int) - (1 : Int)))).toNat (bitsV .or .u8 (x2.getD ((w64 ((x2.length : Int) - (1 : Int)))).toNat (0 : Int)) (128 : Int)))).length = (([] : List Int) ++ (x2.set ((w64 ((x2.length : Int) - (1 : Int)))).toNat (bitsV .or .u8 (x2.getD ((w64 ((x2.length : Int) - (1 : Int)))).toNat (0 : Int)) (128 : Int)))).length), ((([] : List Int) ++ (x2.set ((w64 ((x2.length : Int) - (1 : Int)))).toNat (bitsV .or .u8 (x2.getD ((w64 ((x2.length : Int) - (1 : Int)))).toNat (0 : Int)) (128 : Int)))).length + ([(0 : Int)] : List (Int)).length ≤ room), (AVle (.slice 1 ((([] : List Int) ++ (x2.set ((w64 ((x2.length : Int) - (1 : Int)))).toNat (bitsV .or .u8 (x2.getD ((w64 ((x2.length : Int) - (1 : Int)))).toNat (0 : Int)) (128 : Int)))).length + ([(0 : Int)] : List (Int)).length) (appF (([] : List Int) ++ (x2.set ((w64 ((x2.length : Int) - (1 : Int)))).toNat (bitsV .or .u8 (x2.getD ((w64 ((x2.length : Int) - (1 : Int)))).toNat (0 : Int)) (128 : Int)))).length (fun i => eU8 ((([] : List Int) ++ (x2.set ((w64 ((x2.length : Int) - (1 : Int)))).toNat (bitsV .or .u8 (x2.getD ((w64 ((x2.length : Int) - (1 : Int)))).toNat (0 : Int)) (128 : Int)))).getD i (0 : Int))) (fun i => eU8 (([(0 : Int)] : List (Int)).getD i (0 : Int)))) (.own 49)) (AV.list 1 eU8 (0 : Int) ((([] : List Int) ++ (x2.set ((w64 ((x2.length : Int) - (1 : Int)))).toNat (bitsV .or .u8 (x2.getD ((w64 ((x2.length : Int) - (1 : Int)))).toNat (0 : Int)) (128 : Int)))) ++ ([(0 : Int)] : List (Int))) (.own 49))), ((([] : List Int) ++ (x2.set ((w64 ((x2.length : Int) - (1 : Int)))).toNat (bitsV .or .u8 (x2.getD ((w64 ((x2.length : Int) - (1 : Int)))).toNat (0 : Int)) (128 : Int)))).length + ([(0 : Int)] : List (Int)).length = ((([] : List Int) ++ (x2.set ((w64 ((x2.length : Int) - (1 : Int)))).toNat (bitsV .or .u8 (x2.getD ((w64 ((x2.length : Int) - (1 : Int)))).toNat (0 : Int)) (128 : Int)))) ++ ([(0 : Int)] : List (Int))).length), (Spec Try.prog 10 [(AV.list 1 eU8 (0 : Int) ((([] : List Int) ++ (x2.set ((w64 ((x2.length : Int) - (1 : Int)))).toNat (bitsV .or .u8 (x2.getD ((w64 ((x2.length : Int) - (1 : Int)))).toNat (0 : Int)) (128 : Int)))) ++ ([(0 : Int)] : List (Int))) .none)] [] (.tuple [(.int .u64 x9.1), (.int .i64 x9.2.1), (.int .i64 x9.2.2)]) [])]) hn mix (no_hand hΓ) (by kernel_rfl) ⟨av_lit rfl (fun i hi => absurd hi (Nat.not_lt_zero i)), hc7, av_app, (len_app _ _), (av_lit rfl (fun i hi => map_get (e := eU8) (d := (0 : Int)) ([(0 : Int)] : List (Int)) i hi)), rfl, hc8, av_app, (len_app _ _), (ok_num_Get ((([] : List Int) ++ (x2.set ((w64 ((x2.length : Int) - (1 : Int)))).toNat (bitsV .or .u8 (x2.getD ((w64 ((x2.length : Int) - (1 : Int)))).toNat (0 : Int)) (128 : Int)))) ++ ([(0 : Int)] : List (Int))) x9 hx9), trivial⟩ ?_
      refine then_normal ?_
      refine awp_seq ?_
      obtain ⟨hc10, h⟩ := chk_some h
      refine awp_region (rs := []) (cs := []) (live := [0, 5, 9, 12, 13]) (names := [21]) (st' := (⟨[(0, (.int .u64 a_v)), (5, (AV.list 1 eU8 (0 : Int) x2 (.own 21))), (9, (.int .i64 x6.2.2)), (12, (.int .i64 x9.2.2)), (13, (.int .i64 (Int.tmod (w64 a_p1) (x2.length : Int))))], [(21, .tok 1 5 x2.length)]⟩ : St)) (obs := [((x2.length : Int) ≠ 0)]) hn mix (no_hand hΓ) (by kernel_rfl) ⟨hc10, trivial⟩ ?_
      refine then_normal ?_
      refine awp_seq ?_
      obtain ⟨hc11, h⟩ := chk_some h
      refine awp_region (rs := []) (cs := [(61, (AV.list 1 eU8 (0 : Int) ([] : List Int) .exact)), (63, .vsl 63 0)]) (live := [0, 5, 9, 12, 13, 14]) (names := [21, 63]) (st' := (⟨[(0, (.int .u64 a_v)), (5, (AV.list 1 eU8 (0 : Int) x2 (.own 21))), (9, (.int .i64 x6.2.2)), (12, (.int .i64 x9.2.2)), (13, (.int .i64 (Int.tmod (w64 a_p1) (x2.length : Int)))), (14, (.vsl 63 x2.length))], [(21, .tok 1 5 x2.length), (63, .arr 1 5 x2.length (fun i => eU8 (x2.getD i (0 : Int))))]⟩ : St)) (obs := [(AVle (.slice 1 0 (fun i => ([] : List (List AV)).getD i []) .exact) (AV.list 1 eU8 (0 : Int) ([] : List Int) .exact)), (x2.length ≤ room)]) hn mix (no_hand hΓ) (by kernel_rfl) ⟨av_lit rfl (fun i hi => absurd hi (Nat.not_lt_zero i)), hc11, trivial⟩ ?_
      refine then_normal ?_
      refine awp_seq ?_
      obtain ⟨hc12, h⟩ := chk_some h
      obtain ⟨hc13, h⟩ := chk_some h
      refine awp_region (rs := []) (cs := []) (live := [0, 5, 9, 12, 14]) (names := [21, 63]) (st' := (⟨[(0, (.int .u64 a_v)), (5, (AV.list 1 eU8 (0 : Int) x2 (.own 21))), (9, (.int .i64 x6.2.2)), (12, (.int .i64 x9.2.2)), (14, (.vsl 63 x2.length))], [(21, .tok 1 5 x2.length), (63, .arr 1 5 x2.length (fun i_ => AV.eraseAll (fun n_ => memB n_ [21, 63]) ((putF (fun i => eU8 (x2.getD i (0 : Int))) ((Int.tmod (w64 a_p1) (x2.length : Int))).toNat 0 [(.int .u8 (bitsV .xor .u8 (x2.getD ((Int.tmod (w64 a_p1) (x2.length : Int))).toNat (0 : Int)) (1 : Int)))]) i_)))]⟩ : St)) (obs := [(InB (Int.tmod (w64 a_p1) (x2.length : Int)) x2.length), (x2.length = x2.length), (InB (Int.tmod (w64 a_p1) (x2.length : Int)) x2.length), (x2.length = x2.length)]) hn mix (no_hand hΓ) (by kernel_rfl) ⟨hc12, rfl, hc13, rfl, trivial⟩ ?_
      refine then_normal ?_
      refine awp_le (Le.trans (le_of (st' := (⟨[(0, (.int .u64 a_v)), (5, (AV.list 1 eU8 (0 : Int) x2 (.own 21))), (9, (.int .i64 x6.2.2)), (12, (.int .i64 x9.2.2)), (14, (.vsl 63 x2.length))], [(21, .tok 1 5 x2.length), (63, .arr 1 5 x2.length (fun i => eU8 ((x2.set ((Int.tmod (w64 a_p1) (x2.length : Int))).toNat (bitsV .xor .u8 (x2.getD ((Int.tmod (w64 a_p1) (x2.length : Int))).toNat (0 : Int)) (1 : Int))).getD i (0 : Int))))]⟩ : St)) (TmpsLe.refl _) (.same (.arr (leL_of_eq (List.length_set ..).symm (fun k_ hk_ => (congrArg (AV.eraseAll (fun n_ => memB n_ [21, 63])) ((putF_set (fun _ _ => rfl) (by have hq := hc13; unfold InB at hq; first | omega | (simp only [List.length_set] at hq ⊢; omega)) rfl) k_ hk_)).trans rfl)) .nil))) (le_eq (congrArg (fun k_ : Nat => (⟨[(0, (.int .u64 a_v)), (5, (AV.list 1 eU8 (0 : Int) x2 (.own 21))), (9, (.int .i64 x6.2.2)), (12, (.int .i64 x9.2.2)), (14, (.vsl 63 k_))], [(21, .tok 1 5 x2.length), (63, .arr 1 5 k_ (fun i => eU8 ((x2.set ((Int.tmod (w64 a_p1) (x2.length : Int))).toNat (bitsV .xor .u8 (x2.getD ((Int.tmod (w64 a_p1) (x2.length : Int))).toNat (0 : Int)) (1 : Int))).getD i (0 : Int))))]⟩ : St)) (show x2.length = (x2.set ((Int.tmod (w64 a_p1) (x2.length : Int))).toNat (bitsV .xor .u8 (x2.getD ((Int.tmod (w64 a_p1) (x2.length : Int))).toNat (0 : Int)) (1 : Int))).length from (List.length_set ..).symm)))) ?_
      refine awp_seq ?_
      refine awp_le (Le.trans (le_freeze (nm := 63) (sz := 1) (n := ((x2.set ((Int.tmod (w64 a_p1) (x2.length : Int))).toNat (bitsV .xor .u8 (x2.getD ((Int.tmod (w64 a_p1) (x2.length : Int))).toNat (0 : Int)) (1 : Int))).length)) (e := 5) (f := (fun i => eU8 ((x2.set ((Int.tmod (w64 a_p1) (x2.length : Int))).toNat (bitsV .xor .u8 (x2.getD ((Int.tmod (w64 a_p1) (x2.length : Int))).toNat (0 : Int)) (1 : Int))).getD i (0 : Int)))) (f' := (fun i => eU8 ((x2.set ((Int.tmod (w64 a_p1) (x2.length : Int))).toNat (bitsV .xor .u8 (x2.getD ((Int.tmod (w64 a_p1) (x2.length : Int))).toNat (0 : Int)) (1 : Int))).getD i (0 : Int)))) [14] rfl (.cons rfl .nil) (fun _ _ => rfl) (by rw [hΓ]; rfl)) (le_eq (st' := (⟨[(0, (.int .u64 a_v)), (5, (AV.list 1 eU8 (0 : Int) x2 (.own 21))), (9, (.int .i64 x6.2.2)), (12, (.int .i64 x9.2.2)), (14, (AV.list 1 eU8 (0 : Int) (x2.set ((Int.tmod (w64 a_p1) (x2.length : Int))).toNat (bitsV .xor .u8 (x2.getD ((Int.tmod (w64 a_p1) (x2.length : Int))).toNat (0 : Int)) (1 : Int))) (.own 63)))], [(21, .tok 1 5 x2.length), (63, .tok 1 5 ((x2.set ((Int.tmod (w64 a_p1) (x2.length : Int))).toNat (bitsV .xor .u8 (x2.getD ((Int.tmod (w64 a_p1) (x2.length : Int))).toNat (0 : Int)) (1 : Int))).length))]⟩ : St)) (by kernel_rfl))) ?_
      obtain ⟨x14, hx14, h⟩ := bind_some h
      refine awp_region (rs := [⟨[], [], (.tuple [(.int .u64 x14.1), (.int .i64 x14.2.1), (.int .i64 x14.2.2)]), []⟩]) (cs := []) (live := [0, 5, 9, 12, 15, 16, 17]) (names := [21]) (st' := (⟨[(0, (.int .u64 a_v)), (5, (AV.list 1 eU8 (0 : Int) x2 (.own 21))), (9, (.int .i64 x6.2.2)), (12, (.int .i64 x9.2.2)), (15, (.int .u64 x14.1)), (16, (.int .i64 x14.2.1)), (17, (.int .i64 x14.2.2))], [(21, .tok 1 5 x2.length)]⟩ : St)) (obs := [(Spec Try.prog 10 [(AV.list 1 eU8 (0 : Int) (x2.set ((Int.tmod (w64 a_p1) (x2.length : Int))).toNat (bitsV .xor .u8 (x2.getD ((Int.tmod (w64 a_p1) (x2.length : Int))).toNat (0 : Int)) (1 : Int))) .none)] [] (.tuple [(.int .u64 x14.1), (.int .i64 x14.2.1), (.int .i64 x14.2.2)]) [])]) hn mix (no_hand hΓ) (by kernel_rfl) ⟨(ok_num_Get (x2.set ((Int.tmod (w64 a_p1) (x2.length : Int))).toNat (bitsV .xor .u8 (x2.getD ((Int.tmod (w64 a_p1) (x2.length : Int))).toNat (0 : Int)) (1 : Int))) x14 hx14), trivial⟩ ?_
      refine then_normal ?_
      refine awp_seq ?_
      refine awp_region (rs := []) (cs := []) (live := [4]) (names := []) (st' := (⟨[(4, (.bool (bif (bif ((x6.2.2 : Int) != (0 : Int)) then ((x9.2.2 : Int) == (3 : Int)) else false) then (bif ((x14.2.2 : Int) != (0 : Int)) then true else (bif ((x14.2.1 : Int) == (x2.length : Int)) then ((x14.1 : Int) != a_v) else false)) else false)))], []⟩ : St)) (obs := [((((x6.2.2 : Int) != (0 : Int)) == true) = true → (((x6.2.2 : Int) != (0 : Int)) == true) = true), (((x6.2.2 : Int) != (0 : Int)) = true → (((x6.2.2 : Int) != (0 : Int)) == true) = true), (((bif ((x6.2.2 : Int) != (0 : Int)) then ((x9.2.2 : Int) == (3 : Int)) else false) == true) = true → ((bif ((x6.2.2 : Int) != (0 : Int)) then ((x9.2.2 : Int) == (3 : Int)) else false) == true) = true), (((bif ((x6.2.2 : Int) != (0 : Int)) then ((x9.2.2 : Int) == (3 : Int)) else false) == true) = true → ((bif ((x6.2.2 : Int) != (0 : Int)) then ((x9.2.2 : Int) == (3 : Int)) else false) == true) = true), ((((bif ((x6.2.2 : Int) != (0 : Int)) then ((x9.2.2 : Int) == (3 : Int)) else false) == true) && (((x14.2.2 : Int) != (0 : Int)) == false)) = true → (((bif ((x6.2.2 : Int) != (0 : Int)) then ((x9.2.2 : Int) == (3 : Int)) else false) == true) && (((x14.2.2 : Int) != (0 : Int)) == false)) = true), ((((bif ((x6.2.2 : Int) != (0 : Int)) then ((x9.2.2 : Int) == (3 : Int)) else false) == true) && (((x14.2.2 : Int) != (0 : Int)) == false)) = true → (((bif ((x6.2.2 : Int) != (0 : Int)) then ((x9.2.2 : Int) == (3 : Int)) else false) == true) && (((x14.2.2 : Int) != (0 : Int)) == false)) = true), ((((bif ((x6.2.2 : Int) != (0 : Int)) then ((x9.2.2 : Int) == (3 : Int)) else false) == true) && (((x14.2.2 : Int) != (0 : Int)) == false)) = true → (((bif ((x6.2.2 : Int) != (0 : Int)) then ((x9.2.2 : Int) == (3 : Int)) else false) == true) && (((x14.2.2 : Int) != (0 : Int)) == false)) = true), ((((bif ((x6.2.2 : Int) != (0 : Int)) then ((x9.2.2 : Int) == (3 : Int)) else false) == true) && (((x14.2.2 : Int) != (0 : Int)) == false)) = true → (((bif ((x6.2.2 : Int) != (0 : Int)) then ((x9.2.2 : Int) == (3 : Int)) else false) == true) && (((x14.2.2 : Int) != (0 : Int)) == false)) = true), (((((bif ((x6.2.2 : Int) != (0 : Int)) then ((x9.2.2 : Int) == (3 : Int)) else false) == true) && (((x14.2.2 : Int) != (0 : Int)) == false)) && (((x14.2.1 : Int) == (x2.length : Int)) == true)) = true → ((((bif ((x6.2.2 : Int) != (0 : Int)) then ((x9.2.2 : Int) == (3 : Int)) else false) == true) && (((x14.2.2 : Int) != (0 : Int)) == false)) && (((x14.2.1 : Int) == (x2.length : Int)) == true)) = true), (((((bif ((x6.2.2 : Int) != (0 : Int)) then ((x9.2.2 : Int) == (3 : Int)) else false) == true) && (((x14.2.2 : Int) != (0 : Int)) == false)) && (((x14.2.1 : Int) == (x2.length : Int)) == true)) = true → ((((bif ((x6.2.2 : Int) != (0 : Int)) then ((x9.2.2 : Int) == (3 : Int)) else false) == true) && (((x14.2.2 : Int) != (0 : Int)) == false)) && (((x14.2.1 : Int) == (x2.length : Int)) == true)) = true), ((((bif ((x6.2.2 : Int) != (0 : Int)) then ((x9.2.2 : Int) == (3 : Int)) else false) == true) && (((x14.2.2 : Int) != (0 : Int)) == false)) = true → (((bif ((x6.2.2 : Int) != (0 : Int)) then ((x9.2.2 : Int) == (3 : Int)) else false) == true) && (((x14.2.2 : Int) != (0 : Int)) == false)) = true), ((((bif ((x6.2.2 : Int) != (0 : Int)) then ((x9.2.2 : Int) == (3 : Int)) else false) == true) && (((x14.2.2 : Int) != (0 : Int)) == false)) = true → (((x14.2.1 : Int) == (x2.length : Int)) = true → ((((bif ((x6.2.2 : Int) != (0 : Int)) then ((x9.2.2 : Int) == (3 : Int)) else false) == true) && (((x14.2.2 : Int) != (0 : Int)) == false)) && (((x14.2.1 : Int) == (x2.length : Int)) == true)) = true)), (((bif ((x6.2.2 : Int) != (0 : Int)) then ((x9.2.2 : Int) == (3 : Int)) else false) == true) = true → ((bif ((x6.2.2 : Int) != (0 : Int)) then ((x9.2.2 : Int) == (3 : Int)) else false) == true) = true), (((bif ((x6.2.2 : Int) != (0 : Int)) then ((x9.2.2 : Int) == (3 : Int)) else false) == true) = true → (((x14.2.2 : Int) != (0 : Int)) = false → (((bif ((x6.2.2 : Int) != (0 : Int)) then ((x9.2.2 : Int) == (3 : Int)) else false) == true) && (((x14.2.2 : Int) != (0 : Int)) == false)) = true)), ((bif ((x6.2.2 : Int) != (0 : Int)) then ((x9.2.2 : Int) == (3 : Int)) else false) = true → ((bif ((x6.2.2 : Int) != (0 : Int)) then ((x9.2.2 : Int) == (3 : Int)) else false) == true) = true)]) hn mix (no_hand hΓ) (by kernel_rfl) ⟨(fun hg => hg), (fun hp => by rw [hp]; rfl), (fun hg => hg), (fun hg => hg), (fun hg => hg), (fun hg => hg), (fun hg => hg), (fun hg => hg), (fun hg => hg), (fun hg => hg), (fun hg => hg), (fun hg => (fun hp => by rw [hg, hp]; rfl)), (fun hg => hg), (fun hg => (fun hp => by rw [hg, hp]; rfl)), (fun hp => by rw [hp]; rfl), trivial⟩ ?_
      refine then_normal ?_
      refine awp_ret ?_
      obtain rfl := Option.some.inj h
      exact ⟨.inl rfl, [], by kernel_rfl⟩
end Go.Proofs.Ytgdihcpnhkkelaa
