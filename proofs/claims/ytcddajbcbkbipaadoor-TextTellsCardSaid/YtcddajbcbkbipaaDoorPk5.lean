/-
  The machine, the program's functions and the laws' arithmetic: part 5 of 6.
-/
import Derived.Test.YtcddajbcbkbipaaDoorPk4
import Derived.OpenShut
import Derived.ShutString
namespace Go.Proofs.YtcddajbcbkbipaaDoor
open Go Go.RowKit
set_option linter.unusedVariables false
set_option maxRecDepth 100000
set_option maxHeartbeats 2000000
noncomputable def m_lockstepref04_May_L1 (a_f : TFunc) (i4 : Int) : Int → Option (LR Int (Unit ⊕ Bool)) :=
  fun (i6 : Int) => (bif (decide ((i6 : Int) < (((a_f.Blocks.getD (i4).toNat (default : TBlock)).Phis).length : Int))) then (chk (InB i6 ((a_f.Blocks.getD (i4).toNat (default : TBlock)).Phis).length) ((m_lockstepref04_num ((((a_f.Blocks.getD (i4).toNat (default : TBlock)).Phis).getD (i6).toNat (default : TPhi)).Bits)).bind fun x8 => ((bif ((!x8) == false) then m_lockstepref04_num ((((a_f.Blocks.getD (i4).toNat (default : TBlock)).Phis).getD (i6).toNat (default : TPhi)).Dst) else some false).bind fun x9 => ((bif ((bif (!x8) then true else (!x9)) == false) then m_lockstepref04_list ((((a_f.Blocks.getD (i4).toNat (default : TBlock)).Phis).getD (i6).toNat (default : TPhi)).From) else some false).bind fun x10 => ((bif ((bif (bif (!x8) then true else (!x9)) then true else (!x10)) == false) then m_lockstepref04_list ((((a_f.Blocks.getD (i4).toNat (default : TBlock)).Phis).getD (i6).toNat (default : TPhi)).Args) else some false).bind fun x11 => (bif (bif (bif (bif (!x8) then true else (!x9)) then true else (!x10)) then true else (!x11)) then (some (.done (.inr false))) else (some (.next (w64 (i6 + (1 : Int))))))))))) else (some (.done (.inl ()))))
noncomputable def m_lockstepref04_May_L2 (a_f : TFunc) (i4 : Int) : Int → Option (LR Int (Unit ⊕ Bool)) :=
  fun (i14 : Int) => (bif (decide ((i14 : Int) < (((a_f.Blocks.getD (i4).toNat (default : TBlock)).Ops).length : Int))) then (chk (InB i14 ((a_f.Blocks.getD (i4).toNat (default : TBlock)).Ops).length) ((m_lockstepref04_num ((((a_f.Blocks.getD (i4).toNat (default : TBlock)).Ops).getD (i14).toNat (default : TOp)).Kind)).bind fun x16 => ((bif ((!x16) == false) then m_lockstepref04_num ((((a_f.Blocks.getD (i4).toNat (default : TBlock)).Ops).getD (i14).toNat (default : TOp)).Bits) else some false).bind fun x17 => ((bif ((bif (!x16) then true else (!x17)) == false) then m_lockstepref04_num ((((a_f.Blocks.getD (i4).toNat (default : TBlock)).Ops).getD (i14).toNat (default : TOp)).Lanes) else some false).bind fun x18 => ((bif ((bif (bif (!x16) then true else (!x17)) then true else (!x18)) == false) then m_lockstepref04_num ((((a_f.Blocks.getD (i4).toNat (default : TBlock)).Ops).getD (i14).toNat (default : TOp)).Dst) else some false).bind fun x19 => ((bif ((bif (bif (bif (!x16) then true else (!x17)) then true else (!x18)) then true else (!x19)) == false) then m_lockstepref04_list ((((a_f.Blocks.getD (i4).toNat (default : TBlock)).Ops).getD (i14).toNat (default : TOp)).Args) else some false).bind fun x20 => (bif (bif (bif (bif (bif (!x16) then true else (!x17)) then true else (!x18)) then true else (!x19)) then true else (!x20)) then (some (.done (.inr false))) else (some (.next (w64 (i14 + (1 : Int)))))))))))) else (some (.done (.inl ()))))
noncomputable def m_lockstepref04_May_L3 (a_f : TFunc) : Int → Option (LR Int (Unit ⊕ Bool)) :=
  fun (i4 : Int) => (bif (decide ((i4 : Int) < (a_f.Blocks.length : Int))) then (chk (InB i4 a_f.Blocks.length) ((loopO (S := Int) (X := (Unit ⊕ Bool)) (m_lockstepref04_May_L1 a_f i4) (0 : Int)).bind (fun x12 => (match x12 with | (.inl _) => ((loopO (S := Int) (X := (Unit ⊕ Bool)) (m_lockstepref04_May_L2 a_f i4) (0 : Int)).bind (fun x21 => (match x21 with | (.inl _) => ((m_lockstepref04_num ((a_f.Blocks.getD (i4).toNat (default : TBlock)).End.Kind)).bind fun x23 => ((bif ((!x23) == false) then m_lockstepref04_num ((a_f.Blocks.getD (i4).toNat (default : TBlock)).End.Arg) else some false).bind fun x24 => ((bif ((bif (!x23) then true else (!x24)) == false) then m_lockstepref04_list ((a_f.Blocks.getD (i4).toNat (default : TBlock)).End.To) else some false).bind fun x25 => (bif (bif (bif (!x23) then true else (!x24)) then true else (!x25)) then (some (.done (.inr false))) else (some (.next (w64 (i4 + (1 : Int))))))))) | (.inr r26) => (some (.done (.inr r26)))))) | (.inr r27) => (some (.done (.inr r27))))))) else (some (.done (.inl ()))))
noncomputable def Q177 (a_f : TFunc) := (bif (bif (((a_f.Blocks.length : Int) : Int) == (0 : Int)) then true else (decide (((64 : Int) : Int) < (a_f.Blocks.length : Int)))) then true else (decide (((16 : Int) : Int) < (a_f.Params.length : Int))))
noncomputable def Q189 (a_f : TFunc) (x1 : Bool) := (bif (Q177 a_f) then true else (!x1))
noncomputable def Q195 (a_f : TFunc) (x1 : Bool) (x2 : Bool) := (bif (Q189 a_f x1) then true else (!x2))
noncomputable def Q187 (x8 : Bool) (x9 : Bool) := ((bif (!x8) then true else (!x9)) == false)
noncomputable def Q184 (x23 : Bool) (x24 : Bool) := ((bif (!x23) then true else (!x24)) == false)
noncomputable def Q186 (x16 : Bool) (x17 : Bool) := ((bif (!x16) then true else (!x17)) == false)
noncomputable def Q179 (x16 : Bool) (x17 : Bool) (x18 : Bool) := (bif (bif (!x16) then true else (!x17)) then true else (!x18))
noncomputable def Q190 (x16 : Bool) (x17 : Bool) (x18 : Bool) (x19 : Bool) := (bif (Q179 x16 x17 x18) then true else (!x19))
noncomputable def Q188 (a_f : TFunc) (i4 : Int) := (a_f.Blocks.getD (i4).toNat (default : TBlock))
noncomputable def Q185 (a_f : TFunc) := ((((a_f.Blocks.length : Int) : Int) == (0 : Int)) == false)
noncomputable def Q183 (x8 : Bool) (x9 : Bool) (x10 : Bool) := (bif (bif (!x8) then true else (!x9)) then true else (!x10))
noncomputable def Q192 (a_f : TFunc) : List AV := [(AV.list 1 eI64 (0 : Int) a_f.Params .none), (.int .i64 a_f.Ret), (AV.list 5 eTBlock (default : TBlock) a_f.Blocks .none)]
noncomputable def Q196 (a_f : TFunc) (i4 : Int) : List AV := [(AV.list 4 eTPhi (default : TPhi) (Q188 a_f i4).Phis .none), (AV.list 6 eTOp (default : TOp) (Q188 a_f i4).Ops .none), (.int .i64 (Q188 a_f i4).End.Kind), (.int .i64 (Q188 a_f i4).End.Arg), (AV.list 1 eI64 (0 : Int) (Q188 a_f i4).End.To .none)]
noncomputable def Q176 (a_f : TFunc) (i4 : Int) : List (Nat × Own) := [(1, .row 25 (Q192 a_f)), (4, .row 49 (Q196 a_f i4))]
noncomputable def Q191 (i4 : Int) (a_f : TFunc) := (⟨[(1, (.ptr 1 0)), (3, (.int .i64 i4)), (4, (.ptr 4 0))], (Q176 a_f i4)⟩ : St)
noncomputable def Q178 (a_f : TFunc) (i4 : Int) (i14 : Int) := (((Q188 a_f i4).Ops).getD (i14).toNat (default : TOp))
noncomputable def Q181 (a_f : TFunc) (i4 : Int) (i6 : Int) := (((Q188 a_f i4).Phis).getD (i6).toNat (default : TPhi))
noncomputable def Q194 (i4 : Int) (a_f : TFunc) := (fun (i6 : Int) => (⟨[(1, (.ptr 1 0)), (3, (.int .i64 i4)), (4, (.ptr 4 0)), (5, (.int .i64 i6))], (Q176 a_f i4)⟩ : St))
noncomputable def Q193 (i4 : Int) (a_f : TFunc) := (fun (i14 : Int) => (⟨[(1, (.ptr 1 0)), (3, (.int .i64 i4)), (4, (.ptr 4 0)), (7, (.int .i64 i14))], (Q176 a_f i4)⟩ : St))
noncomputable def Q180 (a_f : TFunc) : List (Nat × Own) := [(1, .row 25 (Q192 a_f))]
noncomputable def Q182 (a_f : TFunc) := ((bif (((a_f.Blocks.length : Int) : Int) == (0 : Int)) then true else (decide (((64 : Int) : Int) < (a_f.Blocks.length : Int)))) == false)
noncomputable def m_lockstepref04_May (a_f : TFunc) : Option Bool :=
  ((bif ((bif (bif (((a_f.Blocks.length : Int) : Int) == (0 : Int)) then true else (decide (((64 : Int) : Int) < (a_f.Blocks.length : Int)))) then true else (decide (((16 : Int) : Int) < (a_f.Params.length : Int)))) == false) then m_lockstepref04_list a_f.Params else some false).bind fun x1 => ((bif ((bif (bif (bif (((a_f.Blocks.length : Int) : Int) == (0 : Int)) then true else (decide (((64 : Int) : Int) < (a_f.Blocks.length : Int)))) then true else (decide (((16 : Int) : Int) < (a_f.Params.length : Int)))) then true else (!x1)) == false) then m_lockstepref04_num a_f.Ret else some false).bind fun x2 => ((bif ((bif (bif (bif (bif (((a_f.Blocks.length : Int) : Int) == (0 : Int)) then true else (decide (((64 : Int) : Int) < (a_f.Blocks.length : Int)))) then true else (decide (((16 : Int) : Int) < (a_f.Params.length : Int)))) then true else (!x1)) then true else (!x2)) == false) then m_lockstepref04_Size a_f else some (0 : Int)).bind fun x3 => (bif (bif (bif (bif (bif (bif (((a_f.Blocks.length : Int) : Int) == (0 : Int)) then true else (decide (((64 : Int) : Int) < (a_f.Blocks.length : Int)))) then true else (decide (((16 : Int) : Int) < (a_f.Params.length : Int)))) then true else (!x1)) then true else (!x2)) then true else (decide (((512 : Int) : Int) < x3))) then (some false) else ((loopO (S := Int) (X := (Unit ⊕ Bool)) (m_lockstepref04_May_L3 a_f) (0 : Int)).bind (fun x28 => (match x28 with | (.inl _) => (some true) | (.inr r30) => (some r30))))))))
theorem ok_lockstepref04_May (a_f : TFunc) (r : Bool) (h : m_lockstepref04_May a_f = some r) : Spec Tryd.prog 26 [(.agg (eTFunc a_f))] [] (.bool r) [] := by
  refine spec_of_awp (fn := Tryd.f26) Tryd.func26 rfl rfl (by kernel_rfl) (fun Γ hn hΓ => ?_)
  have hn : Γ.n = 147 := hn
  unfold m_lockstepref04_May at h
  refine rgs0 (⟨[(1, (.ptr 1 0))], (Q180 a_f)⟩ : St) hn mix (no_hand hΓ) (by kernel_rfl) ?_
  refine awp_seq ?_
  obtain ⟨x1, hx1, h⟩ := bind_some h
  obtain ⟨x2, hx2, h⟩ := bind_some h
  obtain ⟨x3, hx3, h⟩ := bind_some h
  refine rgs [⟨[], [], (.bool x1), []⟩, ⟨[], [], (.bool x2), []⟩, ⟨[], [], (.int .i64 x3), []⟩] [] (⟨[(1, (.ptr 1 0)), (41, (.bool (bif (Q195 a_f x1 x2) then true else (decide (((512 : Int) : Int) < x3)))))], (Q180 a_f)⟩ : St) [((Q185 a_f) = true → (Q185 a_f) = true), ((Q185 a_f) = true → (Q185 a_f) = true), ((Q185 a_f) = true → (Q185 a_f) = true), ((((a_f.Blocks.length : Int) : Int) == (0 : Int)) = false → (Q185 a_f) = true), ((Q182 a_f) = true → (Q182 a_f) = true), ((Q182 a_f) = true → (Q182 a_f) = true), ((Q182 a_f) = true → (Q182 a_f) = true), ((bif (((a_f.Blocks.length : Int) : Int) == (0 : Int)) then true else (decide (((64 : Int) : Int) < (a_f.Blocks.length : Int)))) = false → (Q182 a_f) = true), (((Q177 a_f) == false) = true → ((Q177 a_f) == false) = true), (((Q177 a_f) == false) = true → ((Q177 a_f) == false) = true), (((Q177 a_f) == false) = true → (Spec Tryd.prog 50 [(AV.list 1 eI64 (0 : Int) a_f.Params .none)] [] (.bool x1) [])), (((Q177 a_f) == false) = true → ((Q177 a_f) == false) = true), ((Q177 a_f) = false → ((Q177 a_f) == false) = true), (((Q189 a_f x1) == false) = true → ((Q189 a_f x1) == false) = true), (((Q189 a_f x1) == false) = true → ((Q189 a_f x1) == false) = true), (((Q189 a_f x1) == false) = true → (Spec Tryd.prog 51 [(.int .i64 a_f.Ret)] [] (.bool x2) [])), (((Q189 a_f x1) == false) = true → ((Q189 a_f x1) == false) = true), ((Q189 a_f x1) = false → ((Q189 a_f x1) == false) = true), (((Q195 a_f x1 x2) == false) = true → ((Q195 a_f x1 x2) == false) = true), (((Q195 a_f x1 x2) == false) = true → (Spec Tryd.prog 18 [(.agg (eTFunc a_f))] [] (.int .i64 x3) [])), (((Q195 a_f x1 x2) == false) = true → ((Q195 a_f x1 x2) == false) = true), ((Q195 a_f x1 x2) = false → ((Q195 a_f x1 x2) == false) = true)] hn mix (no_hand hΓ) (by kernel_rfl) ⟨(fun hg => hg), (fun hg => hg), (fun hg => hg), gF, (fun hg => hg), (fun hg => hg), (fun hg => hg), gF, (fun hg => hg), (fun hg => hg), (fun hg => (ok_lockstepref04_list a_f.Params x1 (cond_t hg hx1))), (fun hg => hg), gF, (fun hg => hg), (fun hg => hg), (fun hg => (ok_lockstepref04_num a_f.Ret x2 (cond_t hg hx2))), (fun hg => hg), gF, (fun hg => hg), (fun hg => (ok_lockstepref04_Size a_f x3 (cond_t hg hx3))), (fun hg => hg), gF, trivial⟩ ?_
  refine awp_cond (bif (Q195 a_f x1 x2) then true else (decide (((512 : Int) : Int) < x3))) (by kernel_rfl) (fun hb => ?_) (fun hb => ?_)
  · replace h := cond_t hb h
    clear hb
    refine rgs0 (⟨[(2, (.bool false))], []⟩ : St) hn mix (no_hand hΓ) (by kernel_rfl) ?_
    refine awp_ret ?_
    refine then_ret ?_
    obtain rfl := Option.some.inj h
    exact ⟨.inl rfl, [], by kernel_rfl⟩
  · replace h := cond_f hb h
    clear hb
    refine awp_skip ?_
    refine then_normal ?_
    refine awp_seq ?_
    refine rgs0 (⟨[(1, (.ptr 1 0)), (3, (.int .i64 (0 : Int)))], (Q180 a_f)⟩ : St) hn mix (no_hand hΓ) (by kernel_rfl) ?_
    refine awp_block ?_
    refine awp_le (st' := (fun (i4 : Int) => (⟨[(1, (.ptr 1 0)), (3, (.int .i64 i4))], (Q180 a_f)⟩ : St)) (0 : Int)) (Le.refl _ _) ?_
    obtain ⟨x28, hx28, h⟩ := bind_some h
    refine awp_loop (fun (i4 : Int) => (⟨[(1, (.ptr 1 0)), (3, (.int .i64 i4))], (Q180 a_f)⟩ : St)) _ (fun (x_ : (Unit ⊕ Bool)) (e : Exit) (st : St) => match x_ with | (.inl _) => e = (.exit 0) ∧ Le Γ st (⟨[], []⟩ : St) | (.inr r_) => e = .ret ∧ retK Tryd.prog Tryd.f26.results.toList [] (.bool r_) [] e st) ?_ hx28 ?_
    · intro i4 y h
      unfold m_lockstepref04_May_L3 at h
      refine awp_seq ?_
      refine rgs0 (⟨[(1, (.ptr 1 0)), (3, (.int .i64 i4)), (46, (.bool (decide ((i4 : Int) < (a_f.Blocks.length : Int)))))], (Q180 a_f)⟩ : St) hn mix (no_hand hΓ) (by kernel_rfl) ?_
      refine awp_cond (decide ((i4 : Int) < (a_f.Blocks.length : Int))) (by kernel_rfl) (fun hb => ?_) (fun hb => ?_)
      · replace h := cond_t hb h
        clear hb
        refine awp_skip ?_
        refine then_normal ?_
        refine awp_seq ?_
        refine awp_block ?_
        obtain ⟨hc5, h⟩ := chk_some h
        refine rgs [] [] (Q191 i4 a_f) [(InB i4 a_f.Blocks.length)] hn mix (no_hand hΓ) (by kernel_rfl) ⟨hc5, trivial⟩ ?_
        refine awp_seq ?_
        refine rgs0 (⟨[(1, (.ptr 1 0)), (3, (.int .i64 i4)), (4, (.ptr 4 0)), (5, (.int .i64 (0 : Int)))], (Q176 a_f i4)⟩ : St) hn mix (no_hand hΓ) (by kernel_rfl) ?_
        refine awp_block ?_
        refine awp_le (st' := (Q194 i4 a_f) (0 : Int)) (Le.refl _ _) ?_
        obtain ⟨x12, hx12, h⟩ := bind_some h
        refine awp_loop (Q194 i4 a_f) _ (fun (x_ : (Unit ⊕ Bool)) (e : Exit) (st : St) => match x_ with | (.inl _) => e = (.exit 2) ∧ Le Γ st (Q191 i4 a_f) | (.inr r_) => e = .ret ∧ retK Tryd.prog Tryd.f26.results.toList [] (.bool r_) [] e st) ?_ hx12 ?_
        · intro i6 y h
          unfold m_lockstepref04_May_L1 at h
          refine awp_seq ?_
          refine rgs0 (⟨[(1, (.ptr 1 0)), (3, (.int .i64 i4)), (4, (.ptr 4 0)), (5, (.int .i64 i6)), (58, (.bool (decide ((i6 : Int) < (((Q188 a_f i4).Phis).length : Int)))))], (Q176 a_f i4)⟩ : St) hn mix (no_hand hΓ) (by kernel_rfl) ?_
          refine awp_cond (decide ((i6 : Int) < (((Q188 a_f i4).Phis).length : Int))) (by kernel_rfl) (fun hb => ?_) (fun hb => ?_)
          · replace h := cond_t hb h
            clear hb
            refine awp_skip ?_
            refine then_normal ?_
            refine awp_seq ?_
            refine awp_block ?_
            obtain ⟨hc7, h⟩ := chk_some h
            refine rgs [] [] (⟨[(1, (.ptr 1 0)), (3, (.int .i64 i4)), (4, (.ptr 4 0)), (5, (.int .i64 i6)), (6, (.ptr 6 0))], [(1, .row 25 (Q192 a_f)), (4, .row 49 (Q196 a_f i4)), (6, .row 53 [(.int .i64 (Q181 a_f i4 i6).Bits), (.int .i64 (Q181 a_f i4 i6).Dst), (AV.list 1 eI64 (0 : Int) (Q181 a_f i4 i6).From .none), (AV.list 1 eI64 (0 : Int) (Q181 a_f i4 i6).Args .none)])]⟩ : St) [(InB i6 ((Q188 a_f i4).Phis).length)] hn mix (no_hand hΓ) (by kernel_rfl) ⟨hc7, trivial⟩ ?_
            obtain ⟨x8, hx8, h⟩ := bind_some h
            obtain ⟨x9, hx9, h⟩ := bind_some h
            obtain ⟨x10, hx10, h⟩ := bind_some h
            obtain ⟨x11, hx11, h⟩ := bind_some h
            refine rgs [⟨[], [], (.bool x8), []⟩, ⟨[], [], (.bool x9), []⟩, ⟨[], [], (.bool x10), []⟩, ⟨[], [], (.bool x11), []⟩] [] (⟨[(1, (.ptr 1 0)), (3, (.int .i64 i4)), (4, (.ptr 4 0)), (5, (.int .i64 i6)), (87, (.bool (bif (Q183 x8 x9 x10) then true else (!x11))))], (Q176 a_f i4)⟩ : St) [(Spec Tryd.prog 51 [(.int .i64 (Q181 a_f i4 i6).Bits)] [] (.bool x8) []), (((!x8) == false) = true → ((!x8) == false) = true), (((!x8) == false) = true → ((!x8) == false) = true), (((!x8) == false) = true → (Spec Tryd.prog 51 [(.int .i64 (Q181 a_f i4 i6).Dst)] [] (.bool x9) [])), (((!x8) == false) = true → ((!x8) == false) = true), ((!x8) = false → ((!x8) == false) = true), ((Q187 x8 x9) = true → (Q187 x8 x9) = true), ((Q187 x8 x9) = true → (Q187 x8 x9) = true), ((Q187 x8 x9) = true → (Spec Tryd.prog 50 [(AV.list 1 eI64 (0 : Int) (Q181 a_f i4 i6).From .none)] [] (.bool x10) [])), ((Q187 x8 x9) = true → (Q187 x8 x9) = true), ((bif (!x8) then true else (!x9)) = false → (Q187 x8 x9) = true), (((Q183 x8 x9 x10) == false) = true → ((Q183 x8 x9 x10) == false) = true), (((Q183 x8 x9 x10) == false) = true → ((Q183 x8 x9 x10) == false) = true), (((Q183 x8 x9 x10) == false) = true → (Spec Tryd.prog 50 [(AV.list 1 eI64 (0 : Int) (Q181 a_f i4 i6).Args .none)] [] (.bool x11) [])), (((Q183 x8 x9 x10) == false) = true → ((Q183 x8 x9 x10) == false) = true), ((Q183 x8 x9 x10) = false → ((Q183 x8 x9 x10) == false) = true)] hn mix (no_hand hΓ) (by kernel_rfl) ⟨(ok_lockstepref04_num ((Q181 a_f i4 i6).Bits) x8 hx8), (fun hg => hg), (fun hg => hg), (fun hg => (ok_lockstepref04_num ((Q181 a_f i4 i6).Dst) x9 (cond_t hg hx9))), (fun hg => hg), gF, (fun hg => hg), (fun hg => hg), (fun hg => (ok_lockstepref04_list ((Q181 a_f i4 i6).From) x10 (cond_t hg hx10))), (fun hg => hg), gF, (fun hg => hg), (fun hg => hg), (fun hg => (ok_lockstepref04_list ((Q181 a_f i4 i6).Args) x11 (cond_t hg hx11))), (fun hg => hg), gF, trivial⟩ ?_
            refine awp_cond (bif (Q183 x8 x9 x10) then true else (!x11)) (by kernel_rfl) (fun hb => ?_) (fun hb => ?_)
            · replace h := cond_t hb h
              clear hb
              refine rgs0 (⟨[(2, (.bool false))], []⟩ : St) hn mix (no_hand hΓ) (by kernel_rfl) ?_
              refine awp_ret ?_
              refine block_ret ?_
              refine then_ret ?_
              obtain rfl := Option.some.inj h
              exact ⟨(by intro hh; cases hh), rfl, ⟨.inl rfl, [], by kernel_rfl⟩⟩
            · replace h := cond_f hb h
              clear hb
              refine awp_skip ?_
              refine block_normal ?_
              refine then_normal ?_
              refine rg0 (⟨[(1, (.ptr 1 0)), (3, (.int .i64 i4)), (4, (.ptr 4 0)), (5, (.int .i64 (w64 (i6 + (1 : Int)))))], (Q176 a_f i4)⟩ : St) hn mix (no_hand hΓ) (by kernel_rfl) ?_
              obtain rfl := Option.some.inj h
              exact ⟨rfl, Le.refl _ _⟩
          · replace h := cond_f hb h
            clear hb
            refine awp_exit ?_
            refine then_exit ?_
            obtain rfl := Option.some.inj h
            exact ⟨(by intro hh; cases hh), rfl, le_restrict_eq [1, 3, 4] [1, 4] (by kernel_rfl) (no_hand hΓ)⟩
        · clear hx12
          rcases x12 with _ | r27
          · rintro e st' ⟨rfl, hl13⟩
            refine block_here ?_
            refine then_normal ?_
            refine awp_le hl13 ?_
            refine awp_seq ?_
            refine rgs0 (⟨[(1, (.ptr 1 0)), (3, (.int .i64 i4)), (4, (.ptr 4 0)), (7, (.int .i64 (0 : Int)))], (Q176 a_f i4)⟩ : St) hn mix (no_hand hΓ) (by kernel_rfl) ?_
            refine awp_block ?_
            refine awp_le (st' := (Q193 i4 a_f) (0 : Int)) (Le.refl _ _) ?_
            obtain ⟨x21, hx21, h⟩ := bind_some h
            refine awp_loop (Q193 i4 a_f) _ (fun (x_ : (Unit ⊕ Bool)) (e : Exit) (st : St) => match x_ with | (.inl _) => e = (.exit 4) ∧ Le Γ st (Q191 i4 a_f) | (.inr r_) => e = .ret ∧ retK Tryd.prog Tryd.f26.results.toList [] (.bool r_) [] e st) ?_ hx21 ?_
            · intro i14 y h
              unfold m_lockstepref04_May_L2 at h
              refine awp_seq ?_
              refine rgs0 (⟨[(1, (.ptr 1 0)), (3, (.int .i64 i4)), (4, (.ptr 4 0)), (7, (.int .i64 i14)), (92, (.bool (decide ((i14 : Int) < (((Q188 a_f i4).Ops).length : Int)))))], (Q176 a_f i4)⟩ : St) hn mix (no_hand hΓ) (by kernel_rfl) ?_
              refine awp_cond (decide ((i14 : Int) < (((Q188 a_f i4).Ops).length : Int))) (by kernel_rfl) (fun hb => ?_) (fun hb => ?_)
              · replace h := cond_t hb h
                clear hb
                refine awp_skip ?_
                refine then_normal ?_
                refine awp_seq ?_
                refine awp_block ?_
                obtain ⟨hc15, h⟩ := chk_some h
                refine rgs [] [] (⟨[(1, (.ptr 1 0)), (3, (.int .i64 i4)), (4, (.ptr 4 0)), (7, (.int .i64 i14)), (8, (.ptr 8 0))], [(1, .row 25 (Q192 a_f)), (4, .row 49 (Q196 a_f i4)), (8, .row 43 [(.int .i64 (Q178 a_f i4 i14).Kind), (.int .i64 (Q178 a_f i4 i14).Bits), (.int .i64 (Q178 a_f i4 i14).Lanes), (.int .i64 (Q178 a_f i4 i14).Dst), (AV.list 1 eI64 (0 : Int) (Q178 a_f i4 i14).Args .none), (.int .u64 (Q178 a_f i4 i14).Imm)])]⟩ : St) [(InB i14 ((Q188 a_f i4).Ops).length)] hn mix (no_hand hΓ) (by kernel_rfl) ⟨hc15, trivial⟩ ?_
                obtain ⟨x16, hx16, h⟩ := bind_some h
                obtain ⟨x17, hx17, h⟩ := bind_some h
                obtain ⟨x18, hx18, h⟩ := bind_some h
                obtain ⟨x19, hx19, h⟩ := bind_some h
                obtain ⟨x20, hx20, h⟩ := bind_some h
                refine rgs [⟨[], [], (.bool x16), []⟩, ⟨[], [], (.bool x17), []⟩, ⟨[], [], (.bool x18), []⟩, ⟨[], [], (.bool x19), []⟩, ⟨[], [], (.bool x20), []⟩] [] (⟨[(1, (.ptr 1 0)), (3, (.int .i64 i4)), (4, (.ptr 4 0)), (7, (.int .i64 i14)), (127, (.bool (bif (Q190 x16 x17 x18 x19) then true else (!x20))))], (Q176 a_f i4)⟩ : St) [(Spec Tryd.prog 51 [(.int .i64 (Q178 a_f i4 i14).Kind)] [] (.bool x16) []), (((!x16) == false) = true → ((!x16) == false) = true), (((!x16) == false) = true → ((!x16) == false) = true), (((!x16) == false) = true → (Spec Tryd.prog 51 [(.int .i64 (Q178 a_f i4 i14).Bits)] [] (.bool x17) [])), (((!x16) == false) = true → ((!x16) == false) = true), ((!x16) = false → ((!x16) == false) = true), ((Q186 x16 x17) = true → (Q186 x16 x17) = true), ((Q186 x16 x17) = true → (Q186 x16 x17) = true), ((Q186 x16 x17) = true → (Spec Tryd.prog 51 [(.int .i64 (Q178 a_f i4 i14).Lanes)] [] (.bool x18) [])), ((Q186 x16 x17) = true → (Q186 x16 x17) = true), ((bif (!x16) then true else (!x17)) = false → (Q186 x16 x17) = true), (((Q179 x16 x17 x18) == false) = true → ((Q179 x16 x17 x18) == false) = true), (((Q179 x16 x17 x18) == false) = true → ((Q179 x16 x17 x18) == false) = true), (((Q179 x16 x17 x18) == false) = true → (Spec Tryd.prog 51 [(.int .i64 (Q178 a_f i4 i14).Dst)] [] (.bool x19) [])), (((Q179 x16 x17 x18) == false) = true → ((Q179 x16 x17 x18) == false) = true), ((Q179 x16 x17 x18) = false → ((Q179 x16 x17 x18) == false) = true), (((Q190 x16 x17 x18 x19) == false) = true → ((Q190 x16 x17 x18 x19) == false) = true), (((Q190 x16 x17 x18 x19) == false) = true → ((Q190 x16 x17 x18 x19) == false) = true), (((Q190 x16 x17 x18 x19) == false) = true → (Spec Tryd.prog 50 [(AV.list 1 eI64 (0 : Int) (Q178 a_f i4 i14).Args .none)] [] (.bool x20) [])), (((Q190 x16 x17 x18 x19) == false) = true → ((Q190 x16 x17 x18 x19) == false) = true), ((Q190 x16 x17 x18 x19) = false → ((Q190 x16 x17 x18 x19) == false) = true)] hn mix (no_hand hΓ) (by kernel_rfl) ⟨(ok_lockstepref04_num ((Q178 a_f i4 i14).Kind) x16 hx16), (fun hg => hg), (fun hg => hg), (fun hg => (ok_lockstepref04_num ((Q178 a_f i4 i14).Bits) x17 (cond_t hg hx17))), (fun hg => hg), gF, (fun hg => hg), (fun hg => hg), (fun hg => (ok_lockstepref04_num ((Q178 a_f i4 i14).Lanes) x18 (cond_t hg hx18))), (fun hg => hg), gF, (fun hg => hg), (fun hg => hg), (fun hg => (ok_lockstepref04_num ((Q178 a_f i4 i14).Dst) x19 (cond_t hg hx19))), (fun hg => hg), gF, (fun hg => hg), (fun hg => hg), (fun hg => (ok_lockstepref04_list ((Q178 a_f i4 i14).Args) x20 (cond_t hg hx20))), (fun hg => hg), gF, trivial⟩ ?_
                refine awp_cond (bif (Q190 x16 x17 x18 x19) then true else (!x20)) (by kernel_rfl) (fun hb => ?_) (fun hb => ?_)
                · replace h := cond_t hb h
                  clear hb
                  refine rgs0 (⟨[(2, (.bool false))], []⟩ : St) hn mix (no_hand hΓ) (by kernel_rfl) ?_
                  refine awp_ret ?_
                  refine block_ret ?_
                  refine then_ret ?_
                  obtain rfl := Option.some.inj h
                  exact ⟨(by intro hh; cases hh), rfl, ⟨.inl rfl, [], by kernel_rfl⟩⟩
                · replace h := cond_f hb h
                  clear hb
                  refine awp_skip ?_
                  refine block_normal ?_
                  refine then_normal ?_
                  refine rg0 (⟨[(1, (.ptr 1 0)), (3, (.int .i64 i4)), (4, (.ptr 4 0)), (7, (.int .i64 (w64 (i14 + (1 : Int)))))], (Q176 a_f i4)⟩ : St) hn mix (no_hand hΓ) (by kernel_rfl) ?_
                  obtain rfl := Option.some.inj h
                  exact ⟨rfl, Le.refl _ _⟩
              · replace h := cond_f hb h
                clear hb
                refine awp_exit ?_
                refine then_exit ?_
                obtain rfl := Option.some.inj h
                exact ⟨(by intro hh; cases hh), rfl, le_restrict_eq [1, 3, 4] [1, 4] (by kernel_rfl) (no_hand hΓ)⟩
            · clear hx21
              rcases x21 with _ | r26
              · rintro e st' ⟨rfl, hl22⟩
                refine block_here ?_
                refine then_normal ?_
                refine awp_le hl22 ?_
                obtain ⟨x23, hx23, h⟩ := bind_some h
                obtain ⟨x24, hx24, h⟩ := bind_some h
                obtain ⟨x25, hx25, h⟩ := bind_some h
                refine rgs [⟨[], [], (.bool x23), []⟩, ⟨[], [], (.bool x24), []⟩, ⟨[], [], (.bool x25), []⟩] [] (⟨[(1, (.ptr 1 0)), (3, (.int .i64 i4)), (146, (.bool (bif (bif (!x23) then true else (!x24)) then true else (!x25))))], (Q180 a_f)⟩ : St) [(Spec Tryd.prog 51 [(.int .i64 (Q188 a_f i4).End.Kind)] [] (.bool x23) []), (((!x23) == false) = true → ((!x23) == false) = true), (((!x23) == false) = true → ((!x23) == false) = true), (((!x23) == false) = true → ((!x23) == false) = true), (((!x23) == false) = true → (Spec Tryd.prog 51 [(.int .i64 (Q188 a_f i4).End.Arg)] [] (.bool x24) [])), (((!x23) == false) = true → ((!x23) == false) = true), ((!x23) = false → ((!x23) == false) = true), ((Q184 x23 x24) = true → (Q184 x23 x24) = true), ((Q184 x23 x24) = true → (Q184 x23 x24) = true), ((Q184 x23 x24) = true → (Q184 x23 x24) = true), ((Q184 x23 x24) = true → (Spec Tryd.prog 50 [(AV.list 1 eI64 (0 : Int) (Q188 a_f i4).End.To .none)] [] (.bool x25) [])), ((Q184 x23 x24) = true → (Q184 x23 x24) = true), ((bif (!x23) then true else (!x24)) = false → (Q184 x23 x24) = true)] hn mix (no_hand hΓ) (by kernel_rfl) ⟨(ok_lockstepref04_num ((Q188 a_f i4).End.Kind) x23 hx23), (fun hg => hg), (fun hg => hg), (fun hg => hg), (fun hg => (ok_lockstepref04_num ((Q188 a_f i4).End.Arg) x24 (cond_t hg hx24))), (fun hg => hg), gF, (fun hg => hg), (fun hg => hg), (fun hg => hg), (fun hg => (ok_lockstepref04_list ((Q188 a_f i4).End.To) x25 (cond_t hg hx25))), (fun hg => hg), gF, trivial⟩ ?_
                refine awp_cond (bif (bif (!x23) then true else (!x24)) then true else (!x25)) (by kernel_rfl) (fun hb => ?_) (fun hb => ?_)
                · replace h := cond_t hb h
                  clear hb
                  refine rgs0 (⟨[(2, (.bool false))], []⟩ : St) hn mix (no_hand hΓ) (by kernel_rfl) ?_
                  refine awp_ret ?_
                  refine block_ret ?_
                  refine then_ret ?_
                  obtain rfl := Option.some.inj h
                  exact ⟨(by intro hh; cases hh), rfl, ⟨.inl rfl, [], by kernel_rfl⟩⟩
                · replace h := cond_f hb h
                  clear hb
                  refine awp_skip ?_
                  refine block_normal ?_
                  refine then_normal ?_
                  refine rg0 (⟨[(1, (.ptr 1 0)), (3, (.int .i64 (w64 (i4 + (1 : Int)))))], (Q180 a_f)⟩ : St) hn mix (no_hand hΓ) (by kernel_rfl) ?_
                  obtain rfl := Option.some.inj h
                  exact ⟨rfl, Le.refl _ _⟩
              · rintro e st' ⟨rfl, hk⟩
                refine block_ret ?_
                refine then_ret ?_
                refine block_ret ?_
                refine then_ret ?_
                obtain rfl := Option.some.inj h
                exact ⟨(by intro hh; cases hh), rfl, hk⟩
          · rintro e st' ⟨rfl, hk⟩
            refine block_ret ?_
            refine then_ret ?_
            refine block_ret ?_
            refine then_ret ?_
            obtain rfl := Option.some.inj h
            exact ⟨(by intro hh; cases hh), rfl, hk⟩
      · replace h := cond_f hb h
        clear hb
        refine awp_exit ?_
        refine then_exit ?_
        obtain rfl := Option.some.inj h
        exact ⟨(by intro hh; cases hh), rfl, le_restrict_eq [] [] (by kernel_rfl) (no_hand hΓ)⟩
    · clear hx28
      rcases x28 with _ | r30
      · rintro e st' ⟨rfl, hl29⟩
        refine block_here ?_
        refine then_normal ?_
        refine awp_le hl29 ?_
        refine rgs0 (⟨[(2, (.bool true))], []⟩ : St) hn mix (no_hand hΓ) (by kernel_rfl) ?_
        refine awp_ret ?_
        obtain rfl := Option.some.inj h
        exact ⟨.inl rfl, [], by kernel_rfl⟩
      · rintro e st' ⟨rfl, hk⟩
        refine block_ret ?_
        refine then_ret ?_
        obtain rfl := Option.some.inj h
        exact hk

noncomputable def m_lockstepref05_Digits_L1  : (Int × List Int) → Option (LR (Int × List Int) (List Int)) :=
  fun ((i2, u3) : (Int × List Int)) => (bif (decide (((10 : Int) : Int) ≤ i2)) then (chk (ByteF ([(wu8 (wu64 ((48 : Int) + (Int.tmod (wu64 (Int.tdiv i2 (10 : Int))) (10 : Int)))))] : List (Int)).length (fun i => eU8 (([(wu8 (wu64 ((48 : Int) + (Int.tmod (wu64 (Int.tdiv i2 (10 : Int))) (10 : Int)))))] : List (Int)).getD i (0 : Int)))) (chk (((bytesF ([(wu8 (wu64 ((48 : Int) + (Int.tmod (wu64 (Int.tdiv i2 (10 : Int))) (10 : Int)))))] : List (Int)).length (fun i => eU8 (([(wu8 (wu64 ((48 : Int) + (Int.tmod (wu64 (Int.tdiv i2 (10 : Int))) (10 : Int)))))] : List (Int)).getD i (0 : Int)))).length : Int) + u3.length ≤ 9223372036854775807) (some (.next ((wu64 (Int.tdiv i2 (10 : Int))), ((bytesF ([(wu8 (wu64 ((48 : Int) + (Int.tmod (wu64 (Int.tdiv i2 (10 : Int))) (10 : Int)))))] : List (Int)).length (fun i => eU8 (([(wu8 (wu64 ((48 : Int) + (Int.tmod (wu64 (Int.tdiv i2 (10 : Int))) (10 : Int)))))] : List (Int)).getD i (0 : Int)))) ++ u3)))))) else (some (.done u3)))
noncomputable def Q198 (a_n : Int) := ([(wu8 (wu64 ((48 : Int) + (Int.tmod a_n (10 : Int)))))] : List (Int))
noncomputable def Q197 (i2 : Int) := ([(wu8 (wu64 ((48 : Int) + (Int.tmod (wu64 (Int.tdiv i2 (10 : Int))) (10 : Int)))))] : List (Int))
noncomputable def m_lockstepref05_Digits (a_n : Int) : Option (List Int) :=
  (chk (ByteF ([(wu8 (wu64 ((48 : Int) + (Int.tmod a_n (10 : Int)))))] : List (Int)).length (fun i => eU8 (([(wu8 (wu64 ((48 : Int) + (Int.tmod a_n (10 : Int)))))] : List (Int)).getD i (0 : Int)))) ((loopO (S := (Int × List Int)) (X := List Int) m_lockstepref05_Digits_L1 (a_n, (bytesF ([(wu8 (wu64 ((48 : Int) + (Int.tmod a_n (10 : Int)))))] : List (Int)).length (fun i => eU8 (([(wu8 (wu64 ((48 : Int) + (Int.tmod a_n (10 : Int)))))] : List (Int)).getD i (0 : Int)))))).bind (fun x7 => ((some x7)))))
theorem ok_lockstepref05_Digits (a_n : Int) (r : List Int) (h : m_lockstepref05_Digits a_n = some r) : Spec Tryd.prog 30 [(.int .u64 a_n)] [] (.str r) [] := by
  refine spec_of_awp (fn := Tryd.f30) Tryd.func30 rfl rfl (by kernel_rfl) (fun Γ hn hΓ => ?_)
  have hn : Γ.n = 23 := hn
  unfold m_lockstepref05_Digits at h
  refine rgs0 (⟨[(0, (.int .u64 a_n))], []⟩ : St) hn mix (no_hand hΓ) (by kernel_rfl) ?_
  obtain ⟨hc1, h⟩ := chk_some h
  refine rgs [] [(8, (AV.list 1 eU8 (0 : Int) (Q198 a_n) .exact))] (⟨[(0, (.int .u64 a_n)), (3, (.str (bytesF (Q198 a_n).length (fun i => eU8 ((Q198 a_n).getD i (0 : Int))))))], []⟩ : St) [((10 : Int) ≠ 0), (AVle (.slice 1 1 (fun i => ([[(.int .u8 (wu8 (wu64 ((48 : Int) + (Int.tmod a_n (10 : Int))))))]] : List (List AV)).getD i []) .exact) (AV.list 1 eU8 (0 : Int) (Q198 a_n) .exact)), (ByteF (Q198 a_n).length (fun i => eU8 ((Q198 a_n).getD i (0 : Int))))] hn mix (no_hand hΓ) (by kernel_rfl) ⟨(by decide), (av_lit rfl (fun i hi => map_get (e := eU8) (d := (0 : Int)) (Q198 a_n) i hi)), hc1, trivial⟩ ?_
  refine awp_seq ?_
  refine awp_block ?_
  refine awp_le (st' := (fun ((i2, u3) : (Int × List Int)) => (⟨[(0, (.int .u64 i2)), (3, (.str u3))], []⟩ : St)) (a_n, (bytesF (Q198 a_n).length (fun i => eU8 ((Q198 a_n).getD i (0 : Int)))))) (Le.refl _ _) ?_
  obtain ⟨x7, hx7, h⟩ := bind_some h
  refine awp_loop (fun ((i2, u3) : (Int × List Int)) => (⟨[(0, (.int .u64 i2)), (3, (.str u3))], []⟩ : St)) _ (fun (u4 : List Int) (e : Exit) (st : St) => e = (.exit 0) ∧ Le Γ st (⟨[(3, (.str u4))], []⟩ : St)) ?_ hx7 ?_
  · rintro ⟨i2, u3⟩ y h
    unfold m_lockstepref05_Digits_L1 at h
    refine awp_seq ?_
    refine rgs0 (⟨[(0, (.int .u64 i2)), (3, (.str u3)), (11, (.bool (decide (((10 : Int) : Int) ≤ i2))))], []⟩ : St) hn mix (no_hand hΓ) (by kernel_rfl) ?_
    refine awp_cond (decide (((10 : Int) : Int) ≤ i2)) (by kernel_rfl) (fun hb => ?_) (fun hb => ?_)
    · replace h := cond_t hb h
      clear hb
      refine awp_skip ?_
      refine then_normal ?_
      refine awp_block ?_
      refine rgs [] [] (⟨[(0, (.int .u64 (wu64 (Int.tdiv i2 (10 : Int))))), (3, (.str u3))], []⟩ : St) [((10 : Int) ≠ 0)] hn mix (no_hand hΓ) (by kernel_rfl) ⟨(by decide), trivial⟩ ?_
      obtain ⟨hc5, h⟩ := chk_some h
      obtain ⟨hc6, h⟩ := chk_some h
      refine rg [] [(18, (AV.list 1 eU8 (0 : Int) (Q197 i2) .exact))] (⟨[(0, (.int .u64 (wu64 (Int.tdiv i2 (10 : Int))))), (3, (.str ((bytesF (Q197 i2).length (fun i => eU8 ((Q197 i2).getD i (0 : Int)))) ++ u3)))], []⟩ : St) [((10 : Int) ≠ 0), (AVle (.slice 1 1 (fun i => ([[(.int .u8 (wu8 (wu64 ((48 : Int) + (Int.tmod (wu64 (Int.tdiv i2 (10 : Int))) (10 : Int))))))]] : List (List AV)).getD i []) .exact) (AV.list 1 eU8 (0 : Int) (Q197 i2) .exact)), (ByteF (Q197 i2).length (fun i => eU8 ((Q197 i2).getD i (0 : Int)))), (((bytesF (Q197 i2).length (fun i => eU8 ((Q197 i2).getD i (0 : Int)))).length : Int) + u3.length ≤ 9223372036854775807)] hn mix (no_hand hΓ) (by kernel_rfl) ⟨(by decide), (av_lit rfl (fun i hi => map_get (e := eU8) (d := (0 : Int)) (Q197 i2) i hi)), hc5, hc6, trivial⟩ ?_
      refine block_normal ?_
      obtain rfl := Option.some.inj h
      exact ⟨rfl, Le.refl _ _⟩
    · replace h := cond_f hb h
      clear hb
      refine awp_exit ?_
      refine then_exit ?_
      obtain rfl := Option.some.inj h
      exact ⟨(by intro hh; cases hh), rfl, le_restrict_eq [3] [] (by kernel_rfl) (no_hand hΓ)⟩
  · clear hx7
    rintro e st' ⟨rfl, hl8⟩
    refine block_here ?_
    refine then_normal ?_
    refine awp_le hl8 ?_
    refine rgs0 (⟨[(2, (.str x7))], []⟩ : St) hn mix (no_hand hΓ) (by kernel_rfl) ?_
    refine awp_ret ?_
    obtain rfl := Option.some.inj h
    exact ⟨.inl rfl, [], by kernel_rfl⟩

noncomputable def m_lockstepref05_nums_L1 (a_l : List (Int)) : (List Int × Int) → Option (LR (List Int × Int) (List Int)) :=
  fun ((u1, i2) : (List Int × Int)) => (bif (decide ((i2 : Int) < (a_l.length : Int))) then (chk ((u1.length : Int) + ([32] : List Int).length ≤ 9223372036854775807) (chk (InB i2 a_l.length) ((m_lockstepref05_Digits (wu64 (a_l.getD (i2).toNat (0 : Int)))).bind fun x6 => (chk (((u1 ++ ([32] : List Int)).length : Int) + x6.length ≤ 9223372036854775807) (some (.next (((u1 ++ ([32] : List Int)) ++ x6), (w64 (i2 + (1 : Int)))))))))) else (some (.done u1)))
noncomputable def Q199 (a_l : List (Int)) : AV := (AV.list 1 eI64 (0 : Int) a_l .none)
noncomputable def m_lockstepref05_nums (a_l : List (Int)) : Option (List Int) :=
  ((loopO (S := (List Int × Int)) (X := List Int) (m_lockstepref05_nums_L1 a_l) (([] : List Int), (0 : Int))).bind (fun x8 => ((some x8))))
theorem ok_lockstepref05_nums (a_l : List (Int)) (r : List Int) (h : m_lockstepref05_nums a_l = some r) : Spec Tryd.prog 28 [(AV.list 1 eI64 (0 : Int) a_l .none)] [] (.str r) [] := by
  refine spec_of_awp (fn := Tryd.f28) Tryd.func28 rfl rfl (by kernel_rfl) (fun Γ hn hΓ => ?_)
  have hn : Γ.n = 21 := hn
  unfold m_lockstepref05_nums at h
  refine rgs0 (⟨[(0, (Q199 a_l))], []⟩ : St) hn mix (no_hand hΓ) (by kernel_rfl) ?_
  refine rgs0 (⟨[(0, (Q199 a_l)), (3, (.str ([] : List Int)))], []⟩ : St) hn mix (no_hand hΓ) (by kernel_rfl) ?_
  refine awp_seq ?_
  refine rgs0 (⟨[(0, (Q199 a_l)), (3, (.str ([] : List Int))), (4, (.int .i64 (0 : Int)))], []⟩ : St) hn mix (no_hand hΓ) (by kernel_rfl) ?_
  refine awp_block ?_
  refine awp_le (st' := (fun ((u1, i2) : (List Int × Int)) => (⟨[(0, (Q199 a_l)), (3, (.str u1)), (4, (.int .i64 i2))], []⟩ : St)) (([] : List Int), (0 : Int))) (Le.refl _ _) ?_
  obtain ⟨x8, hx8, h⟩ := bind_some h
  refine awp_loop (fun ((u1, i2) : (List Int × Int)) => (⟨[(0, (Q199 a_l)), (3, (.str u1)), (4, (.int .i64 i2))], []⟩ : St)) _ (fun (u3 : List Int) (e : Exit) (st : St) => e = (.exit 0) ∧ Le Γ st (⟨[(3, (.str u3))], []⟩ : St)) ?_ hx8 ?_
  · rintro ⟨u1, i2⟩ y h
    unfold m_lockstepref05_nums_L1 at h
    refine awp_seq ?_
    refine rgs0 (⟨[(0, (Q199 a_l)), (3, (.str u1)), (4, (.int .i64 i2)), (8, (.bool (decide ((i2 : Int) < (a_l.length : Int)))))], []⟩ : St) hn mix (no_hand hΓ) (by kernel_rfl) ?_
    refine awp_cond (decide ((i2 : Int) < (a_l.length : Int))) (by kernel_rfl) (fun hb => ?_) (fun hb => ?_)
    · replace h := cond_t hb h
      clear hb
      refine awp_skip ?_
      refine then_normal ?_
      refine awp_seq ?_
      refine awp_block ?_
      obtain ⟨hc4, h⟩ := chk_some h
      obtain ⟨hc5, h⟩ := chk_some h
      obtain ⟨x6, hx6, h⟩ := bind_some h
      obtain ⟨hc7, h⟩ := chk_some h
      refine rg [⟨[], [], (.str x6), []⟩] [] (⟨[(0, (Q199 a_l)), (3, (.str ((u1 ++ ([32] : List Int)) ++ x6))), (4, (.int .i64 i2))], []⟩ : St) [((u1.length : Int) + ([32] : List Int).length ≤ 9223372036854775807), (InB i2 a_l.length), (Spec Tryd.prog 30 [(.int .u64 (wu64 (a_l.getD (i2).toNat (0 : Int))))] [] (.str x6) []), (((u1 ++ ([32] : List Int)).length : Int) + x6.length ≤ 9223372036854775807)] hn mix (no_hand hΓ) (by kernel_rfl) ⟨hc4, hc5, (ok_lockstepref05_Digits (wu64 (a_l.getD (i2).toNat (0 : Int))) x6 hx6), hc7, trivial⟩ ?_
      refine block_normal ?_
      refine then_normal ?_
      refine rg0 (⟨[(0, (Q199 a_l)), (3, (.str ((u1 ++ ([32] : List Int)) ++ x6))), (4, (.int .i64 (w64 (i2 + (1 : Int)))))], []⟩ : St) hn mix (no_hand hΓ) (by kernel_rfl) ?_
      obtain rfl := Option.some.inj h
      exact ⟨rfl, Le.refl _ _⟩
    · replace h := cond_f hb h
      clear hb
      refine awp_exit ?_
      refine then_exit ?_
      obtain rfl := Option.some.inj h
      exact ⟨(by intro hh; cases hh), rfl, le_restrict_eq [3] [] (by kernel_rfl) (no_hand hΓ)⟩
  · clear hx8
    rintro e st' ⟨rfl, hl9⟩
    refine block_here ?_
    refine then_normal ?_
    refine awp_le hl9 ?_
    refine rgs0 (⟨[(2, (.str x8))], []⟩ : St) hn mix (no_hand hΓ) (by kernel_rfl) ?_
    refine awp_ret ?_
    obtain rfl := Option.some.inj h
    exact ⟨.inl rfl, [], by kernel_rfl⟩

noncomputable def m_lockstepref05_list (a_l : List (Int)) : Option (List Int) :=
  ((m_lockstepref05_nums a_l).bind fun x1 => (Option.bind (α := List Int) (bif (!((x1 : List Int) == ([] : List Int))) then (chk (0 ≤ (1 : Int) ∧ (1 : Int) ≤ (x1.length : Int)) (some ((x1.drop ((1 : Int)).toNat)))) else (some (x1))) (fun x4 => ((chk ((([32, 40] : List Int).length : Int) + x4.length ≤ 9223372036854775807) (chk (((([32, 40] : List Int) ++ x4).length : Int) + ([41] : List Int).length ≤ 9223372036854775807) (some ((([32, 40] : List Int) ++ x4) ++ ([41] : List Int)))))))))
theorem ok_lockstepref05_list (a_l : List (Int)) (r : List Int) (h : m_lockstepref05_list a_l = some r) : Spec Tryd.prog 27 [(AV.list 1 eI64 (0 : Int) a_l .none)] [] (.str r) [] := by
  refine spec_of_awp (fn := Tryd.f27) Tryd.func27 rfl rfl (by kernel_rfl) (fun Γ hn hΓ => ?_)
  have hn : Γ.n = 13 := hn
  unfold m_lockstepref05_list at h
  refine rgs0 (⟨[(0, (AV.list 1 eI64 (0 : Int) a_l .none))], []⟩ : St) hn mix (no_hand hΓ) (by kernel_rfl) ?_
  obtain ⟨x1, hx1, h⟩ := bind_some h
  refine rgs [⟨[], [], (.str x1), []⟩] [] (⟨[(3, (.str x1))], []⟩ : St) [(Spec Tryd.prog 28 [(AV.list 1 eI64 (0 : Int) a_l .none)] [] (.str x1) [])] hn mix (no_hand hΓ) (by kernel_rfl) ⟨(ok_lockstepref05_nums a_l x1 hx1), trivial⟩ ?_
  refine awp_seq ?_
  obtain ⟨x4, hx4, h⟩ := bind_some h
  refine awp_join (fun (u2 : List Int) (e : Exit) (st : St) => e = .normal ∧ Le Γ st (⟨[(3, (.str u2))], []⟩ : St)) hx4 ?_ ?_
  · clear h hx4
    intro y h
    refine rgs0 (⟨[(3, (.str x1)), (7, (.bool (!((x1 : List Int) == ([] : List Int)))))], []⟩ : St) hn mix (no_hand hΓ) (by kernel_rfl) ?_
    refine awp_cond (!((x1 : List Int) == ([] : List Int))) (by kernel_rfl) (fun hb => ?_) (fun hb => ?_)
    · replace h := cond_t hb h
      clear hb
      obtain ⟨hc3, h⟩ := chk_some h
      refine rg [] [] (⟨[(3, (.str (x1.drop ((1 : Int)).toNat)))], []⟩ : St) [(0 ≤ (1 : Int) ∧ (1 : Int) ≤ (x1.length : Int))] hn mix (no_hand hΓ) (by kernel_rfl) ⟨hc3, trivial⟩ ?_
      obtain rfl := Option.some.inj h
      exact ⟨rfl, Le.refl _ _⟩
    · replace h := cond_f hb h
      clear hb
      refine awp_skip ?_
      obtain rfl := Option.some.inj h
      exact ⟨rfl, le_restrict_eq [3] [] (by kernel_rfl) (no_hand hΓ)⟩
  · clear hx4
    rintro e st' ⟨rfl, hl5⟩
    refine then_normal ?_
    refine awp_le hl5 ?_
    obtain ⟨hc6, h⟩ := chk_some h
    obtain ⟨hc7, h⟩ := chk_some h
    refine rgs [] [] (⟨[(2, (.str ((([32, 40] : List Int) ++ x4) ++ ([41] : List Int))))], []⟩ : St) [((([32, 40] : List Int).length : Int) + x4.length ≤ 9223372036854775807), (((([32, 40] : List Int) ++ x4).length : Int) + ([41] : List Int).length ≤ 9223372036854775807)] hn mix (no_hand hΓ) (by kernel_rfl) ⟨hc6, hc7, trivial⟩ ?_
    refine awp_ret ?_
    obtain rfl := Option.some.inj h
    exact ⟨.inl rfl, [], by kernel_rfl⟩

def kc1_lockstepref05_kinds : List (List Int) := ([([99, 111, 110, 115, 116] : List Int), ([97, 100, 100] : List Int), ([115, 117, 98] : List Int), ([109, 117, 108] : List Int), ([100, 105, 118] : List Int), ([97, 110, 100] : List Int), ([111, 114] : List Int), ([120, 111, 114] : List Int), ([115, 104, 108] : List Int), ([115, 104, 114] : List Int), ([101, 113] : List Int), ([117, 108, 116] : List Int), ([115, 108, 116] : List Int), ([115, 101, 108, 101, 99, 116] : List Int), ([122, 101, 120, 116] : List Int), ([116, 114, 117, 110, 99] : List Int), ([108, 111, 97, 100] : List Int), ([115, 116, 111, 114, 101] : List Int), ([112, 108, 111, 97, 100] : List Int), ([112, 115, 116, 111, 114, 101] : List Int), ([112, 100, 105, 118] : List Int), ([112, 97, 99, 107] : List Int), ([103, 101, 116] : List Int)] : List (List Int))
noncomputable def Q200 : AV := (AV.list 1 eS ([] : List Int) kc1_lockstepref05_kinds .exact)
noncomputable def Q201 := (⟨[(0, (AV.list 1 eS ([] : List Int) kc1_lockstepref05_kinds (.own 6000)))], [(6000, .tok 1 9 kc1_lockstepref05_kinds.length)]⟩ : St)
noncomputable def m_lockstepref05_kinds  : Option (List (List Int)) :=
  (some kc1_lockstepref05_kinds)
theorem ok_lockstepref05_kinds  (r : List (List Int)) (h : m_lockstepref05_kinds = some r) : Spec Tryd.prog 29 [] [] (AV.list 1 eS ([] : List Int) r (.own 20000)) [(20000, .tok 1 9 r.length)] := by
  refine spec_of_awp (fn := Tryd.f29) Tryd.func29 rfl rfl (by kernel_rfl) (fun Γ hn hΓ => ?_)
  have hn : Γ.n = 2 := hn
  unfold m_lockstepref05_kinds at h
  refine rgs [] [(0, (AV.list 1 eS ([] : List Int) ([] : List (List Int)) .exact))] (⟨[], []⟩ : St) [(AVle (.slice 0 0 (fun _ => []) .exact) (AV.list 1 eS ([] : List Int) ([] : List (List Int)) .exact))] hn mix (no_hand hΓ) (by kernel_rfl) ⟨av_nil, trivial⟩ ?_
  refine rgs [] [(1, Q200)] (⟨[(0, Q200)], []⟩ : St) [(AVle (.slice 1 23 (fun i => ([[(.str ([99, 111, 110, 115, 116] : List Int))], [(.str ([97, 100, 100] : List Int))], [(.str ([115, 117, 98] : List Int))], [(.str ([109, 117, 108] : List Int))], [(.str ([100, 105, 118] : List Int))], [(.str ([97, 110, 100] : List Int))], [(.str ([111, 114] : List Int))], [(.str ([120, 111, 114] : List Int))], [(.str ([115, 104, 108] : List Int))], [(.str ([115, 104, 114] : List Int))], [(.str ([101, 113] : List Int))], [(.str ([117, 108, 116] : List Int))], [(.str ([115, 108, 116] : List Int))], [(.str ([115, 101, 108, 101, 99, 116] : List Int))], [(.str ([122, 101, 120, 116] : List Int))], [(.str ([116, 114, 117, 110, 99] : List Int))], [(.str ([108, 111, 97, 100] : List Int))], [(.str ([115, 116, 111, 114, 101] : List Int))], [(.str ([112, 108, 111, 97, 100] : List Int))], [(.str ([112, 115, 116, 111, 114, 101] : List Int))], [(.str ([112, 100, 105, 118] : List Int))], [(.str ([112, 97, 99, 107] : List Int))], [(.str ([103, 101, 116] : List Int))]] : List (List AV)).getD i []) .exact) Q200)] hn mix (no_hand hΓ) (by kernel_rfl) ⟨(av_lit rfl (fun i hi => map_get (e := eS) (d := ([] : List Int)) kc1_lockstepref05_kinds i hi)), trivial⟩ ?_
  refine awp_le (st' := Q201) (Le.trans (le_restrict_eq (st' := (⟨[(0, Q200)], []⟩ : St)) [0] [] (by kernel_rfl) (no_hand hΓ)) (Le.trans (le_tag (t := 0) (nm := 6000) (sz' := 1) (fun i => eS (kc1_lockstepref05_kinds.getD i ([] : List Int))) 9 rfl rfl (.inl ⟨rfl, rfl⟩) (fun h_ => absurd h_ (by decide))) (le_restrict_eq (st' := Q201) [0] [6000] (by kernel_rfl) (no_hand hΓ)))) ?_
  refine awp_ret ?_
  obtain rfl := Option.some.inj h
  exact ⟨.inl rfl, [(6000, 20000)], by kernel_rfl⟩

noncomputable def Q202 := ([([114, 101, 116] : List Int), ([106, 117, 109, 112] : List Int), ([105, 102] : List Int), ([116, 114, 97, 112] : List Int)] : List (List Int))
noncomputable def m_lockstepref05_ends  : Option (List (List Int)) :=
  (some ([([114, 101, 116] : List Int), ([106, 117, 109, 112] : List Int), ([105, 102] : List Int), ([116, 114, 97, 112] : List Int)] : List (List Int)))
theorem ok_lockstepref05_ends  (r : List (List Int)) (h : m_lockstepref05_ends = some r) : Spec Tryd.prog 31 [] [] (AV.list 1 eS ([] : List Int) r (.own 20000)) [(20000, .tok 1 9 r.length)] := by
  refine spec_of_awp (fn := Tryd.f31) Tryd.func31 rfl rfl (by kernel_rfl) (fun Γ hn hΓ => ?_)
  have hn : Γ.n = 2 := hn
  unfold m_lockstepref05_ends at h
  refine rgs [] [(0, (AV.list 1 eS ([] : List Int) ([] : List (List Int)) .exact))] (⟨[], []⟩ : St) [(AVle (.slice 0 0 (fun _ => []) .exact) (AV.list 1 eS ([] : List Int) ([] : List (List Int)) .exact))] hn mix (no_hand hΓ) (by kernel_rfl) ⟨av_nil, trivial⟩ ?_
  refine rgs [] [(1, (AV.list 1 eS ([] : List Int) Q202 .exact))] (⟨[(0, (AV.list 1 eS ([] : List Int) Q202 .exact))], []⟩ : St) [(AVle (.slice 1 4 (fun i => ([[(.str ([114, 101, 116] : List Int))], [(.str ([106, 117, 109, 112] : List Int))], [(.str ([105, 102] : List Int))], [(.str ([116, 114, 97, 112] : List Int))]] : List (List AV)).getD i []) .exact) (AV.list 1 eS ([] : List Int) Q202 .exact))] hn mix (no_hand hΓ) (by kernel_rfl) ⟨(av_lit rfl (fun i hi => map_get (e := eS) (d := ([] : List Int)) Q202 i hi)), trivial⟩ ?_
  refine awp_le (st' := (⟨[(0, (AV.list 1 eS ([] : List Int) Q202 (.own 6000)))], [(6000, .tok 1 9 (Q202.length))]⟩ : St)) (Le.trans (le_restrict_eq (st' := (⟨[(0, (AV.list 1 eS ([] : List Int) Q202 .exact))], []⟩ : St)) [0] [] (by kernel_rfl) (no_hand hΓ)) (Le.trans (le_tag (t := 0) (nm := 6000) (sz' := 1) (fun i => eS (Q202.getD i ([] : List Int))) 9 rfl rfl (.inl ⟨rfl, rfl⟩) (fun h_ => absurd h_ (by decide))) (le_restrict_eq (st' := (⟨[(0, (AV.list 1 eS ([] : List Int) Q202 (.own 6000)))], [(6000, .tok 1 9 (Q202.length))]⟩ : St)) [0] [6000] (by kernel_rfl) (no_hand hΓ)))) ?_
  refine awp_ret ?_
  obtain rfl := Option.some.inj h
  exact ⟨.inl rfl, [(6000, 20000)], by kernel_rfl⟩

noncomputable def m_lockstepref05_Print_L1 (a_f : TFunc) (i8 : Int) : (List Int × Int) → Option (LR (List Int × Int) (List Int)) :=
  fun ((u12, i13) : (List Int × Int)) => (bif (decide ((i13 : Int) < (((a_f.Blocks.getD (i8).toNat (default : TBlock)).Phis).length : Int))) then (chk ((u12.length : Int) + ([112, 104, 105] : List Int).length ≤ 9223372036854775807) (chk (InB i13 ((a_f.Blocks.getD (i8).toNat (default : TBlock)).Phis).length) (chk (InB i13 ((a_f.Blocks.getD (i8).toNat (default : TBlock)).Phis).length) ((m_lockstepref05_nums ([(((a_f.Blocks.getD (i8).toNat (default : TBlock)).Phis).getD (i13).toNat (default : TPhi)).Bits, (((a_f.Blocks.getD (i8).toNat (default : TBlock)).Phis).getD (i13).toNat (default : TPhi)).Dst] : List (Int))).bind fun x18 => (chk (((u12 ++ ([112, 104, 105] : List Int)).length : Int) + x18.length ≤ 9223372036854775807) (chk (InB i13 ((a_f.Blocks.getD (i8).toNat (default : TBlock)).Phis).length) ((m_lockstepref05_list ((((a_f.Blocks.getD (i8).toNat (default : TBlock)).Phis).getD (i13).toNat (default : TPhi)).From)).bind fun x21 => (chk ((((u12 ++ ([112, 104, 105] : List Int)) ++ x18).length : Int) + x21.length ≤ 9223372036854775807) (chk (InB i13 ((a_f.Blocks.getD (i8).toNat (default : TBlock)).Phis).length) ((m_lockstepref05_list ((((a_f.Blocks.getD (i8).toNat (default : TBlock)).Phis).getD (i13).toNat (default : TPhi)).Args)).bind fun x24 => (chk (((((u12 ++ ([112, 104, 105] : List Int)) ++ x18) ++ x21).length : Int) + x24.length ≤ 9223372036854775807) (chk ((((((u12 ++ ([112, 104, 105] : List Int)) ++ x18) ++ x21) ++ x24).length : Int) + ([10] : List Int).length ≤ 9223372036854775807) (some (.next ((((((u12 ++ ([112, 104, 105] : List Int)) ++ x18) ++ x21) ++ x24) ++ ([10] : List Int)), (w64 (i13 + (1 : Int)))))))))))))))))) else (some (.done u12)))
noncomputable def m_lockstepref05_Print_L2 (a_f : TFunc) (i8 : Int) : (List Int × Int) → Option (LR (List Int × Int) (List Int ⊕ (List Int × Int))) :=
  fun ((u29, i30) : (List Int × Int)) => (bif (decide ((i30 : Int) < (((a_f.Blocks.getD (i8).toNat (default : TBlock)).Ops).length : Int))) then (chk (InB i30 ((a_f.Blocks.getD (i8).toNat (default : TBlock)).Ops).length) ((m_lockstepref05_kinds).bind fun x33 => (bif (decide (((x33.length : Int) : Int) ≤ (((a_f.Blocks.getD (i8).toNat (default : TBlock)).Ops).getD (i30).toNat (default : TOp)).Kind)) then (some (.done (.inr (([] : List Int), (1 : Int))))) else ((m_lockstepref05_kinds).bind fun x34 => (chk (InB (((a_f.Blocks.getD (i8).toNat (default : TBlock)).Ops).getD (i30).toNat (default : TOp)).Kind x34.length) (chk ((u29.length : Int) + (x34.getD ((((a_f.Blocks.getD (i8).toNat (default : TBlock)).Ops).getD (i30).toNat (default : TOp)).Kind).toNat ([] : List Int)).length ≤ 9223372036854775807) ((m_lockstepref05_nums ([(((a_f.Blocks.getD (i8).toNat (default : TBlock)).Ops).getD (i30).toNat (default : TOp)).Bits, (((a_f.Blocks.getD (i8).toNat (default : TBlock)).Ops).getD (i30).toNat (default : TOp)).Lanes, (((a_f.Blocks.getD (i8).toNat (default : TBlock)).Ops).getD (i30).toNat (default : TOp)).Dst] : List (Int))).bind fun x37 => (chk (((u29 ++ (x34.getD ((((a_f.Blocks.getD (i8).toNat (default : TBlock)).Ops).getD (i30).toNat (default : TOp)).Kind).toNat ([] : List Int))).length : Int) + x37.length ≤ 9223372036854775807) ((m_lockstepref05_list ((((a_f.Blocks.getD (i8).toNat (default : TBlock)).Ops).getD (i30).toNat (default : TOp)).Args)).bind fun x39 => (chk ((((u29 ++ (x34.getD ((((a_f.Blocks.getD (i8).toNat (default : TBlock)).Ops).getD (i30).toNat (default : TOp)).Kind).toNat ([] : List Int))) ++ x37).length : Int) + x39.length ≤ 9223372036854775807) (chk (((((u29 ++ (x34.getD ((((a_f.Blocks.getD (i8).toNat (default : TBlock)).Ops).getD (i30).toNat (default : TOp)).Kind).toNat ([] : List Int))) ++ x37) ++ x39).length : Int) + ([32] : List Int).length ≤ 9223372036854775807) ((m_lockstepref05_Digits ((((a_f.Blocks.getD (i8).toNat (default : TBlock)).Ops).getD (i30).toNat (default : TOp)).Imm)).bind fun x42 => (chk ((((((u29 ++ (x34.getD ((((a_f.Blocks.getD (i8).toNat (default : TBlock)).Ops).getD (i30).toNat (default : TOp)).Kind).toNat ([] : List Int))) ++ x37) ++ x39) ++ ([32] : List Int)).length : Int) + x42.length ≤ 9223372036854775807) (chk (((((((u29 ++ (x34.getD ((((a_f.Blocks.getD (i8).toNat (default : TBlock)).Ops).getD (i30).toNat (default : TOp)).Kind).toNat ([] : List Int))) ++ x37) ++ x39) ++ ([32] : List Int)) ++ x42).length : Int) + ([10] : List Int).length ≤ 9223372036854775807) (some (.next (((((((u29 ++ (x34.getD ((((a_f.Blocks.getD (i8).toNat (default : TBlock)).Ops).getD (i30).toNat (default : TOp)).Kind).toNat ([] : List Int))) ++ x37) ++ x39) ++ ([32] : List Int)) ++ x42) ++ ([10] : List Int)), (w64 (i30 + (1 : Int)))))))))))))))))))) else (some (.done (.inl u29))))
noncomputable def m_lockstepref05_Print_L3 (a_f : TFunc) : (List Int × Int) → Option (LR (List Int × Int) (List Int ⊕ (List Int × Int))) :=
  fun ((u7, i8) : (List Int × Int)) => (bif (decide ((i8 : Int) < (a_f.Blocks.length : Int))) then (chk (InB i8 a_f.Blocks.length) (chk ((u7.length : Int) + ([98, 108, 111, 99, 107, 10] : List Int).length ≤ 9223372036854775807) ((loopO (S := (List Int × Int)) (X := List Int) (m_lockstepref05_Print_L1 a_f i8) ((u7 ++ ([98, 108, 111, 99, 107, 10] : List Int)), (0 : Int))).bind (fun x27 => (((loopO (S := (List Int × Int)) (X := (List Int ⊕ (List Int × Int))) (m_lockstepref05_Print_L2 a_f i8) (x27, (0 : Int))).bind (fun x45 => (match x45 with | (.inl u31) => (bif (decide (((4 : Int) : Int) ≤ (a_f.Blocks.getD (i8).toNat (default : TBlock)).End.Kind)) then (some (.done (.inr (([] : List Int), (1 : Int))))) else ((m_lockstepref05_ends).bind fun x47 => (chk (InB (a_f.Blocks.getD (i8).toNat (default : TBlock)).End.Kind x47.length) (chk ((u31.length : Int) + (x47.getD ((a_f.Blocks.getD (i8).toNat (default : TBlock)).End.Kind).toNat ([] : List Int)).length ≤ 9223372036854775807) ((m_lockstepref05_nums ([(a_f.Blocks.getD (i8).toNat (default : TBlock)).End.Arg] : List (Int))).bind fun x50 => (chk (((u31 ++ (x47.getD ((a_f.Blocks.getD (i8).toNat (default : TBlock)).End.Kind).toNat ([] : List Int))).length : Int) + x50.length ≤ 9223372036854775807) ((m_lockstepref05_list ((a_f.Blocks.getD (i8).toNat (default : TBlock)).End.To)).bind fun x52 => (chk ((((u31 ++ (x47.getD ((a_f.Blocks.getD (i8).toNat (default : TBlock)).End.Kind).toNat ([] : List Int))) ++ x50).length : Int) + x52.length ≤ 9223372036854775807) (chk (((((u31 ++ (x47.getD ((a_f.Blocks.getD (i8).toNat (default : TBlock)).End.Kind).toNat ([] : List Int))) ++ x50) ++ x52).length : Int) + ([10] : List Int).length ≤ 9223372036854775807) (some (.next (((((u31 ++ (x47.getD ((a_f.Blocks.getD (i8).toNat (default : TBlock)).End.Kind).toNat ([] : List Int))) ++ x50) ++ x52) ++ ([10] : List Int)), (w64 (i8 + (1 : Int))))))))))))))) | (.inr r55) => (some (.done (.inr r55))))))))))) else (some (.done (.inl u7))))
noncomputable def Q211 (x2 : List Int) := (([102, 117, 110, 99] : List Int) ++ x2)
noncomputable def Q210 (u12 : List Int) (x18 : List Int) := ((u12 ++ ([112, 104, 105] : List Int)) ++ x18)
noncomputable def Q217 (a_f : TFunc) (i8 : Int) := (a_f.Blocks.getD (i8).toNat (default : TBlock))
noncomputable def Q205 (a_f : TFunc) (i8 : Int) (i13 : Int) := (((Q217 a_f i8).Phis).getD (i13).toNat (default : TPhi))
noncomputable def Q216 (a_f : TFunc) (i8 : Int) (i13 : Int) := ([(Q205 a_f i8 i13).Bits, (Q205 a_f i8 i13).Dst] : List (Int))
noncomputable def Q204 (a_f : TFunc) (i8 : Int) (i30 : Int) := (((Q217 a_f i8).Ops).getD (i30).toNat (default : TOp))
noncomputable def Q214 (u29 : List Int) (x34 : List (List Int)) (a_f : TFunc) (i8 : Int) (i30 : Int) := (u29 ++ (x34.getD ((Q204 a_f i8 i30).Kind).toNat ([] : List Int)))
noncomputable def Q212 := (⟨[(2, (.str ([] : List Int))), (3, (.int .i64 (1 : Int)))], []⟩ : St)
noncomputable def Q209 (i13 : Int) (a_f : TFunc) (i8 : Int) := (InB i13 ((Q217 a_f i8).Phis).length)
noncomputable def Q208 (a_f : TFunc) (i8 : Int) := ([(Q217 a_f i8).End.Arg] : List (Int))
noncomputable def Q215 (a_f : TFunc) (i8 : Int) (i30 : Int) := ([(Q204 a_f i8 i30).Bits, (Q204 a_f i8 i30).Lanes, (Q204 a_f i8 i30).Dst] : List (Int))
noncomputable def Q207 (x47 : List (List Int)) (a_f : TFunc) (i8 : Int) := (x47.getD ((Q217 a_f i8).End.Kind).toNat ([] : List Int))
noncomputable def Q206 (a_f : TFunc) : List (Nat × Own) := [(1, .row 25 [(AV.list 1 eI64 (0 : Int) a_f.Params .none), (.int .i64 a_f.Ret), (AV.list 5 eTBlock (default : TBlock) a_f.Blocks .none)])]
noncomputable def Q203 (a_f : TFunc) (i8 : Int) : List (Nat × Own) := [(1, .row 25 [(AV.list 1 eI64 (0 : Int) a_f.Params .none), (.int .i64 a_f.Ret), (AV.list 5 eTBlock (default : TBlock) a_f.Blocks .none)]), (6, .row 49 [(AV.list 4 eTPhi (default : TPhi) (Q217 a_f i8).Phis .none), (AV.list 6 eTOp (default : TOp) (Q217 a_f i8).Ops .none), (.int .i64 (Q217 a_f i8).End.Kind), (.int .i64 (Q217 a_f i8).End.Arg), (AV.list 1 eI64 (0 : Int) (Q217 a_f i8).End.To .none)])]
noncomputable def Q213 (a_f : TFunc) (i8 : Int) (i30 : Int) : List (Nat × Own) := [(1, .row 25 [(AV.list 1 eI64 (0 : Int) a_f.Params .none), (.int .i64 a_f.Ret), (AV.list 5 eTBlock (default : TBlock) a_f.Blocks .none)]), (6, .row 49 [(AV.list 4 eTPhi (default : TPhi) (Q217 a_f i8).Phis .none), (AV.list 6 eTOp (default : TOp) (Q217 a_f i8).Ops .none), (.int .i64 (Q217 a_f i8).End.Kind), (.int .i64 (Q217 a_f i8).End.Arg), (AV.list 1 eI64 (0 : Int) (Q217 a_f i8).End.To .none)]), (9, .row 43 [(.int .i64 (Q204 a_f i8 i30).Kind), (.int .i64 (Q204 a_f i8 i30).Bits), (.int .i64 (Q204 a_f i8 i30).Lanes), (.int .i64 (Q204 a_f i8 i30).Dst), (AV.list 1 eI64 (0 : Int) (Q204 a_f i8 i30).Args .none), (.int .u64 (Q204 a_f i8 i30).Imm)])]
noncomputable def m_lockstepref05_Print (a_f : TFunc) : Option (List Int × Int) :=
  ((m_lockstepref04_May a_f).bind fun x1 => (bif (!x1) then (some (([] : List Int), (1 : Int))) else ((m_lockstepref05_list a_f.Params).bind fun x2 => (chk ((([102, 117, 110, 99] : List Int).length : Int) + x2.length ≤ 9223372036854775807) ((m_lockstepref05_nums ([a_f.Ret] : List (Int))).bind fun x4 => (chk (((([102, 117, 110, 99] : List Int) ++ x2).length : Int) + x4.length ≤ 9223372036854775807) (chk ((((([102, 117, 110, 99] : List Int) ++ x2) ++ x4).length : Int) + ([10] : List Int).length ≤ 9223372036854775807) ((loopO (S := (List Int × Int)) (X := (List Int ⊕ (List Int × Int))) (m_lockstepref05_Print_L3 a_f) ((((([102, 117, 110, 99] : List Int) ++ x2) ++ x4) ++ ([10] : List Int)), (0 : Int))).bind (fun x56 => (match x56 with | (.inl u9) => (some (u9, (0 : Int))) | (.inr r58) => (some r58)))))))))))
theorem ok_lockstepref05_Print (a_f : TFunc) (r : (List Int × Int)) (h : m_lockstepref05_Print a_f = some r) : Spec Tryd.prog 11 [(.agg (eTFunc a_f))] [] (.tuple [(.str r.1), (.int .i64 r.2)]) [] := by
  refine spec_of_awp (fn := Tryd.f11) Tryd.func11 rfl rfl (by kernel_rfl) (fun Γ hn hΓ => ?_)
  have hn : Γ.n = 146 := hn
  unfold m_lockstepref05_Print at h
  refine rgs0 (⟨[(1, (.ptr 1 0))], (Q206 a_f)⟩ : St) hn mix (no_hand hΓ) (by kernel_rfl) ?_
  refine awp_seq ?_
  obtain ⟨x1, hx1, h⟩ := bind_some h
  refine rgs [⟨[], [], (.bool x1), []⟩] [] (⟨[(1, (.ptr 1 0)), (12, (.bool (!x1)))], (Q206 a_f)⟩ : St) [(Spec Tryd.prog 26 [(.agg (eTFunc a_f))] [] (.bool x1) [])] hn mix (no_hand hΓ) (by kernel_rfl) ⟨(ok_lockstepref04_May a_f x1 hx1), trivial⟩ ?_
  refine awp_cond (!x1) (by kernel_rfl) (fun hb => ?_) (fun hb => ?_)
  · replace h := cond_t hb h
    clear hb
    refine rgs0 Q212 hn mix (no_hand hΓ) (by kernel_rfl) ?_
    refine awp_ret ?_
    refine then_ret ?_
    obtain rfl := Option.some.inj h
    exact ⟨.inl rfl, [], by kernel_rfl⟩
  · replace h := cond_f hb h
    clear hb
    refine awp_skip ?_
    refine then_normal ?_
    obtain ⟨x2, hx2, h⟩ := bind_some h
    obtain ⟨hc3, h⟩ := chk_some h
    obtain ⟨x4, hx4, h⟩ := bind_some h
    obtain ⟨hc5, h⟩ := chk_some h
    obtain ⟨hc6, h⟩ := chk_some h
    refine rgs [⟨[], [], (.str x2), []⟩, ⟨[], [], (.str x4), []⟩] [(19, (AV.list 1 eI64 (0 : Int) ([a_f.Ret] : List (Int)) .exact))] (⟨[(1, (.ptr 1 0)), (4, (.str (((Q211 x2) ++ x4) ++ ([10] : List Int))))], (Q206 a_f)⟩ : St) [(Spec Tryd.prog 27 [(AV.list 1 eI64 (0 : Int) a_f.Params .none)] [] (.str x2) []), ((([102, 117, 110, 99] : List Int).length : Int) + x2.length ≤ 9223372036854775807), (AVle (.slice 1 1 (fun i => ([[(.int .i64 a_f.Ret)]] : List (List AV)).getD i []) .exact) (AV.list 1 eI64 (0 : Int) ([a_f.Ret] : List (Int)) .exact)), (Spec Tryd.prog 28 [(AV.list 1 eI64 (0 : Int) ([a_f.Ret] : List (Int)) .none)] [] (.str x4) []), (((Q211 x2).length : Int) + x4.length ≤ 9223372036854775807), ((((Q211 x2) ++ x4).length : Int) + ([10] : List Int).length ≤ 9223372036854775807)] hn mix (no_hand hΓ) (by kernel_rfl) ⟨(ok_lockstepref05_list a_f.Params x2 hx2), hc3, (av_lit rfl (fun i hi => map_get (e := eI64) (d := (0 : Int)) ([a_f.Ret] : List (Int)) i hi)), (ok_lockstepref05_nums ([a_f.Ret] : List (Int)) x4 hx4), hc5, hc6, trivial⟩ ?_
    refine awp_seq ?_
    refine rgs0 (⟨[(1, (.ptr 1 0)), (4, (.str (((Q211 x2) ++ x4) ++ ([10] : List Int)))), (5, (.int .i64 (0 : Int)))], (Q206 a_f)⟩ : St) hn mix (no_hand hΓ) (by kernel_rfl) ?_
    refine awp_block ?_
    refine awp_le (st' := (fun ((u7, i8) : (List Int × Int)) => (⟨[(1, (.ptr 1 0)), (4, (.str u7)), (5, (.int .i64 i8))], (Q206 a_f)⟩ : St)) ((((Q211 x2) ++ x4) ++ ([10] : List Int)), (0 : Int))) (Le.refl _ _) ?_
    obtain ⟨x56, hx56, h⟩ := bind_some h
    refine awp_loop (fun ((u7, i8) : (List Int × Int)) => (⟨[(1, (.ptr 1 0)), (4, (.str u7)), (5, (.int .i64 i8))], (Q206 a_f)⟩ : St)) _ (fun (x_ : (List Int ⊕ (List Int × Int))) (e : Exit) (st : St) => match x_ with | (.inl u9) => e = (.exit 0) ∧ Le Γ st (⟨[(4, (.str u9))], []⟩ : St) | (.inr r_) => e = .ret ∧ retK Tryd.prog Tryd.f11.results.toList [] (.tuple [(.str r_.1), (.int .i64 r_.2)]) [] e st) ?_ hx56 ?_
    · rintro ⟨u7, i8⟩ y h
      unfold m_lockstepref05_Print_L3 at h
      refine awp_seq ?_
      refine rgs0 (⟨[(1, (.ptr 1 0)), (4, (.str u7)), (5, (.int .i64 i8)), (27, (.bool (decide ((i8 : Int) < (a_f.Blocks.length : Int)))))], (Q206 a_f)⟩ : St) hn mix (no_hand hΓ) (by kernel_rfl) ?_
      refine awp_cond (decide ((i8 : Int) < (a_f.Blocks.length : Int))) (by kernel_rfl) (fun hb => ?_) (fun hb => ?_)
      · replace h := cond_t hb h
        clear hb
        refine awp_skip ?_
        refine then_normal ?_
        refine awp_seq ?_
        refine awp_block ?_
        obtain ⟨hc10, h⟩ := chk_some h
        refine rgs [] [] (⟨[(1, (.ptr 1 0)), (4, (.str u7)), (5, (.int .i64 i8)), (6, (.ptr 6 0))], (Q203 a_f i8)⟩ : St) [(InB i8 a_f.Blocks.length)] hn mix (no_hand hΓ) (by kernel_rfl) ⟨hc10, trivial⟩ ?_
        obtain ⟨hc11, h⟩ := chk_some h
        refine rgs [] [] (⟨[(1, (.ptr 1 0)), (4, (.str (u7 ++ ([98, 108, 111, 99, 107, 10] : List Int)))), (5, (.int .i64 i8)), (6, (.ptr 6 0))], (Q203 a_f i8)⟩ : St) [((u7.length : Int) + ([98, 108, 111, 99, 107, 10] : List Int).length ≤ 9223372036854775807)] hn mix (no_hand hΓ) (by kernel_rfl) ⟨hc11, trivial⟩ ?_
        refine awp_seq ?_
        refine rgs0 (⟨[(1, (.ptr 1 0)), (4, (.str (u7 ++ ([98, 108, 111, 99, 107, 10] : List Int)))), (5, (.int .i64 i8)), (6, (.ptr 6 0)), (7, (.int .i64 (0 : Int)))], (Q203 a_f i8)⟩ : St) hn mix (no_hand hΓ) (by kernel_rfl) ?_
        refine awp_block ?_
        refine awp_le (st' := (fun ((u12, i13) : (List Int × Int)) => (⟨[(1, (.ptr 1 0)), (4, (.str u12)), (5, (.int .i64 i8)), (6, (.ptr 6 0)), (7, (.int .i64 i13))], (Q203 a_f i8)⟩ : St)) ((u7 ++ ([98, 108, 111, 99, 107, 10] : List Int)), (0 : Int))) (Le.refl _ _) ?_
        obtain ⟨x27, hx27, h⟩ := bind_some h
        refine awp_loop (fun ((u12, i13) : (List Int × Int)) => (⟨[(1, (.ptr 1 0)), (4, (.str u12)), (5, (.int .i64 i8)), (6, (.ptr 6 0)), (7, (.int .i64 i13))], (Q203 a_f i8)⟩ : St)) _ (fun (u14 : List Int) (e : Exit) (st : St) => e = (.exit 2) ∧ Le Γ st (⟨[(1, (.ptr 1 0)), (4, (.str u14)), (5, (.int .i64 i8)), (6, (.ptr 6 0))], (Q203 a_f i8)⟩ : St)) ?_ hx27 ?_
        · rintro ⟨u12, i13⟩ y h
          unfold m_lockstepref05_Print_L1 at h
          refine awp_seq ?_
          refine rgs0 (⟨[(1, (.ptr 1 0)), (4, (.str u12)), (5, (.int .i64 i8)), (6, (.ptr 6 0)), (7, (.int .i64 i13)), (41, (.bool (decide ((i13 : Int) < (((Q217 a_f i8).Phis).length : Int)))))], (Q203 a_f i8)⟩ : St) hn mix (no_hand hΓ) (by kernel_rfl) ?_
          refine awp_cond (decide ((i13 : Int) < (((Q217 a_f i8).Phis).length : Int))) (by kernel_rfl) (fun hb => ?_) (fun hb => ?_)
          · replace h := cond_t hb h
            clear hb
            refine awp_skip ?_
            refine then_normal ?_
            refine awp_seq ?_
            refine awp_block ?_
            obtain ⟨hc15, h⟩ := chk_some h
            obtain ⟨hc16, h⟩ := chk_some h
            obtain ⟨hc17, h⟩ := chk_some h
            obtain ⟨x18, hx18, h⟩ := bind_some h
            obtain ⟨hc19, h⟩ := chk_some h
            obtain ⟨hc20, h⟩ := chk_some h
            obtain ⟨x21, hx21, h⟩ := bind_some h
            obtain ⟨hc22, h⟩ := chk_some h
            obtain ⟨hc23, h⟩ := chk_some h
            obtain ⟨x24, hx24, h⟩ := bind_some h
            obtain ⟨hc25, h⟩ := chk_some h
            obtain ⟨hc26, h⟩ := chk_some h
            refine rg [⟨[], [], (.str x18), []⟩, ⟨[], [], (.str x21), []⟩, ⟨[], [], (.str x24), []⟩] [(58, (AV.list 1 eI64 (0 : Int) (Q216 a_f i8 i13) .exact))] (⟨[(1, (.ptr 1 0)), (4, (.str ((((Q210 u12 x18) ++ x21) ++ x24) ++ ([10] : List Int)))), (5, (.int .i64 i8)), (6, (.ptr 6 0)), (7, (.int .i64 i13))], (Q203 a_f i8)⟩ : St) [((u12.length : Int) + ([112, 104, 105] : List Int).length ≤ 9223372036854775807), (Q209 i13 a_f i8), (Q209 i13 a_f i8), (AVle (.slice 1 2 (fun i => ([[(.int .i64 (Q205 a_f i8 i13).Bits)], [(.int .i64 (Q205 a_f i8 i13).Dst)]] : List (List AV)).getD i []) .exact) (AV.list 1 eI64 (0 : Int) (Q216 a_f i8 i13) .exact)), (Spec Tryd.prog 28 [(AV.list 1 eI64 (0 : Int) (Q216 a_f i8 i13) .none)] [] (.str x18) []), (((u12 ++ ([112, 104, 105] : List Int)).length : Int) + x18.length ≤ 9223372036854775807), (Q209 i13 a_f i8), (Spec Tryd.prog 27 [(AV.list 1 eI64 (0 : Int) (Q205 a_f i8 i13).From .none)] [] (.str x21) []), (((Q210 u12 x18).length : Int) + x21.length ≤ 9223372036854775807), (Q209 i13 a_f i8), (Spec Tryd.prog 27 [(AV.list 1 eI64 (0 : Int) (Q205 a_f i8 i13).Args .none)] [] (.str x24) []), ((((Q210 u12 x18) ++ x21).length : Int) + x24.length ≤ 9223372036854775807), (((((Q210 u12 x18) ++ x21) ++ x24).length : Int) + ([10] : List Int).length ≤ 9223372036854775807)] hn mix (no_hand hΓ) (by kernel_rfl) ⟨hc15, hc16, hc17, (av_lit rfl (fun i hi => map_get (e := eI64) (d := (0 : Int)) (Q216 a_f i8 i13) i hi)), (ok_lockstepref05_nums (Q216 a_f i8 i13) x18 hx18), hc19, hc20, (ok_lockstepref05_list ((Q205 a_f i8 i13).From) x21 hx21), hc22, hc23, (ok_lockstepref05_list ((Q205 a_f i8 i13).Args) x24 hx24), hc25, hc26, trivial⟩ ?_
            refine block_normal ?_
            refine then_normal ?_
            refine rg0 (⟨[(1, (.ptr 1 0)), (4, (.str ((((Q210 u12 x18) ++ x21) ++ x24) ++ ([10] : List Int)))), (5, (.int .i64 i8)), (6, (.ptr 6 0)), (7, (.int .i64 (w64 (i13 + (1 : Int)))))], (Q203 a_f i8)⟩ : St) hn mix (no_hand hΓ) (by kernel_rfl) ?_
            obtain rfl := Option.some.inj h
            exact ⟨rfl, Le.refl _ _⟩
          · replace h := cond_f hb h
            clear hb
            refine awp_exit ?_
            refine then_exit ?_
            obtain rfl := Option.some.inj h
            exact ⟨(by intro hh; cases hh), rfl, le_restrict_eq [1, 4, 5, 6] [1, 6] (by kernel_rfl) (no_hand hΓ)⟩
        · clear hx27
          rintro e st' ⟨rfl, hl28⟩
          refine block_here ?_
          refine then_normal ?_
          refine awp_le hl28 ?_
          refine awp_seq ?_
          refine rgs0 (⟨[(1, (.ptr 1 0)), (4, (.str x27)), (5, (.int .i64 i8)), (6, (.ptr 6 0)), (8, (.int .i64 (0 : Int)))], (Q203 a_f i8)⟩ : St) hn mix (no_hand hΓ) (by kernel_rfl) ?_
          refine awp_block ?_
          refine awp_le (st' := (fun ((u29, i30) : (List Int × Int)) => (⟨[(1, (.ptr 1 0)), (4, (.str u29)), (5, (.int .i64 i8)), (6, (.ptr 6 0)), (8, (.int .i64 i30))], (Q203 a_f i8)⟩ : St)) (x27, (0 : Int))) (Le.refl _ _) ?_
          obtain ⟨x45, hx45, h⟩ := bind_some h
          refine awp_loop (fun ((u29, i30) : (List Int × Int)) => (⟨[(1, (.ptr 1 0)), (4, (.str u29)), (5, (.int .i64 i8)), (6, (.ptr 6 0)), (8, (.int .i64 i30))], (Q203 a_f i8)⟩ : St)) _ (fun (x_ : (List Int ⊕ (List Int × Int))) (e : Exit) (st : St) => match x_ with | (.inl u31) => e = (.exit 4) ∧ Le Γ st (⟨[(1, (.ptr 1 0)), (4, (.str u31)), (5, (.int .i64 i8)), (6, (.ptr 6 0))], (Q203 a_f i8)⟩ : St) | (.inr r_) => e = .ret ∧ retK Tryd.prog Tryd.f11.results.toList [] (.tuple [(.str r_.1), (.int .i64 r_.2)]) [] e st) ?_ hx45 ?_
          · rintro ⟨u29, i30⟩ y h
            unfold m_lockstepref05_Print_L2 at h
            refine awp_seq ?_
            refine rgs0 (⟨[(1, (.ptr 1 0)), (4, (.str u29)), (5, (.int .i64 i8)), (6, (.ptr 6 0)), (8, (.int .i64 i30)), (82, (.bool (decide ((i30 : Int) < (((Q217 a_f i8).Ops).length : Int)))))], (Q203 a_f i8)⟩ : St) hn mix (no_hand hΓ) (by kernel_rfl) ?_
            refine awp_cond (decide ((i30 : Int) < (((Q217 a_f i8).Ops).length : Int))) (by kernel_rfl) (fun hb => ?_) (fun hb => ?_)
            · replace h := cond_t hb h
              clear hb
              refine awp_skip ?_
              refine then_normal ?_
              refine awp_seq ?_
              refine awp_block ?_
              obtain ⟨hc32, h⟩ := chk_some h
              refine rgs [] [] (⟨[(1, (.ptr 1 0)), (4, (.str u29)), (5, (.int .i64 i8)), (6, (.ptr 6 0)), (8, (.int .i64 i30)), (9, (.ptr 9 0))], (Q213 a_f i8 i30)⟩ : St) [(InB i30 ((Q217 a_f i8).Ops).length)] hn mix (no_hand hΓ) (by kernel_rfl) ⟨hc32, trivial⟩ ?_
              refine awp_seq ?_
              obtain ⟨x33, hx33, h⟩ := bind_some h
              refine rgs [⟨[], [(20000, 92)], (AV.list 1 eS ([] : List Int) x33 (.own 20000)), [(20000, .tok 1 9 x33.length)]⟩] [] (⟨[(1, (.ptr 1 0)), (4, (.str u29)), (5, (.int .i64 i8)), (6, (.ptr 6 0)), (8, (.int .i64 i30)), (9, (.ptr 9 0)), (94, (.bool (decide (((x33.length : Int) : Int) ≤ (Q204 a_f i8 i30).Kind))))], (Q213 a_f i8 i30)⟩ : St) [(Spec Tryd.prog 29 [] [] (AV.list 1 eS ([] : List Int) x33 (.own 20000)) [(20000, .tok 1 9 x33.length)])] hn mix (no_hand hΓ) (by kernel_rfl) ⟨(ok_lockstepref05_kinds  x33 hx33), trivial⟩ ?_
              refine awp_cond (decide (((x33.length : Int) : Int) ≤ (Q204 a_f i8 i30).Kind)) (by kernel_rfl) (fun hb => ?_) (fun hb => ?_)
              · replace h := cond_t hb h
                clear hb
                refine rgs0 Q212 hn mix (no_hand hΓ) (by kernel_rfl) ?_
                refine awp_ret ?_
                refine then_ret ?_
                refine block_ret ?_
                refine then_ret ?_
                obtain rfl := Option.some.inj h
                exact ⟨(by intro hh; cases hh), rfl, ⟨.inl rfl, [], by kernel_rfl⟩⟩
              · replace h := cond_f hb h
                clear hb
                refine awp_skip ?_
                refine then_normal ?_
                obtain ⟨x34, hx34, h⟩ := bind_some h
                obtain ⟨hc35, h⟩ := chk_some h
                obtain ⟨hc36, h⟩ := chk_some h
                obtain ⟨x37, hx37, h⟩ := bind_some h
                obtain ⟨hc38, h⟩ := chk_some h
                obtain ⟨x39, hx39, h⟩ := bind_some h
                obtain ⟨hc40, h⟩ := chk_some h
                obtain ⟨hc41, h⟩ := chk_some h
                obtain ⟨x42, hx42, h⟩ := bind_some h
                obtain ⟨hc43, h⟩ := chk_some h
                obtain ⟨hc44, h⟩ := chk_some h
                refine rg [⟨[], [(20000, 96)], (AV.list 1 eS ([] : List Int) x34 (.own 20000)), [(20000, .tok 1 9 x34.length)]⟩, ⟨[], [], (.str x37), []⟩, ⟨[], [], (.str x39), []⟩, ⟨[], [], (.str x42), []⟩] [(108, (AV.list 1 eI64 (0 : Int) (Q215 a_f i8 i30) .exact))] (⟨[(1, (.ptr 1 0)), (4, (.str ((((((Q214 u29 x34 a_f i8 i30) ++ x37) ++ x39) ++ ([32] : List Int)) ++ x42) ++ ([10] : List Int)))), (5, (.int .i64 i8)), (6, (.ptr 6 0)), (8, (.int .i64 i30))], (Q203 a_f i8)⟩ : St) [(Spec Tryd.prog 29 [] [] (AV.list 1 eS ([] : List Int) x34 (.own 20000)) [(20000, .tok 1 9 x34.length)]), (InB (Q204 a_f i8 i30).Kind x34.length), ((u29.length : Int) + (x34.getD ((Q204 a_f i8 i30).Kind).toNat ([] : List Int)).length ≤ 9223372036854775807), (AVle (.slice 1 3 (fun i => ([[(.int .i64 (Q204 a_f i8 i30).Bits)], [(.int .i64 (Q204 a_f i8 i30).Lanes)], [(.int .i64 (Q204 a_f i8 i30).Dst)]] : List (List AV)).getD i []) .exact) (AV.list 1 eI64 (0 : Int) (Q215 a_f i8 i30) .exact)), (Spec Tryd.prog 28 [(AV.list 1 eI64 (0 : Int) (Q215 a_f i8 i30) .none)] [] (.str x37) []), (((Q214 u29 x34 a_f i8 i30).length : Int) + x37.length ≤ 9223372036854775807), (Spec Tryd.prog 27 [(AV.list 1 eI64 (0 : Int) (Q204 a_f i8 i30).Args .none)] [] (.str x39) []), ((((Q214 u29 x34 a_f i8 i30) ++ x37).length : Int) + x39.length ≤ 9223372036854775807), (((((Q214 u29 x34 a_f i8 i30) ++ x37) ++ x39).length : Int) + ([32] : List Int).length ≤ 9223372036854775807), (Spec Tryd.prog 30 [(.int .u64 (Q204 a_f i8 i30).Imm)] [] (.str x42) []), ((((((Q214 u29 x34 a_f i8 i30) ++ x37) ++ x39) ++ ([32] : List Int)).length : Int) + x42.length ≤ 9223372036854775807), (((((((Q214 u29 x34 a_f i8 i30) ++ x37) ++ x39) ++ ([32] : List Int)) ++ x42).length : Int) + ([10] : List Int).length ≤ 9223372036854775807)] hn mix (no_hand hΓ) (by kernel_rfl) ⟨(ok_lockstepref05_kinds  x34 hx34), hc35, hc36, (av_lit rfl (fun i hi => map_get (e := eI64) (d := (0 : Int)) (Q215 a_f i8 i30) i hi)), (ok_lockstepref05_nums (Q215 a_f i8 i30) x37 hx37), hc38, (ok_lockstepref05_list ((Q204 a_f i8 i30).Args) x39 hx39), hc40, hc41, (ok_lockstepref05_Digits ((Q204 a_f i8 i30).Imm) x42 hx42), hc43, hc44, trivial⟩ ?_
                refine block_normal ?_
                refine then_normal ?_
                refine rg0 (⟨[(1, (.ptr 1 0)), (4, (.str ((((((Q214 u29 x34 a_f i8 i30) ++ x37) ++ x39) ++ ([32] : List Int)) ++ x42) ++ ([10] : List Int)))), (5, (.int .i64 i8)), (6, (.ptr 6 0)), (8, (.int .i64 (w64 (i30 + (1 : Int)))))], (Q203 a_f i8)⟩ : St) hn mix (no_hand hΓ) (by kernel_rfl) ?_
                obtain rfl := Option.some.inj h
                exact ⟨rfl, Le.refl _ _⟩
            · replace h := cond_f hb h
              clear hb
              refine awp_exit ?_
              refine then_exit ?_
              obtain rfl := Option.some.inj h
              exact ⟨(by intro hh; cases hh), rfl, le_restrict_eq [1, 4, 5, 6] [1, 6] (by kernel_rfl) (no_hand hΓ)⟩
          · clear hx45
            rcases x45 with u31 | r55
            · rintro e st' ⟨rfl, hl46⟩
              refine block_here ?_
              refine then_normal ?_
              refine awp_le hl46 ?_
              refine awp_seq ?_
              refine rgs0 (⟨[(1, (.ptr 1 0)), (4, (.str u31)), (5, (.int .i64 i8)), (6, (.ptr 6 0)), (124, (.bool (decide (((4 : Int) : Int) ≤ (Q217 a_f i8).End.Kind))))], (Q203 a_f i8)⟩ : St) hn mix (no_hand hΓ) (by kernel_rfl) ?_
              refine awp_cond (decide (((4 : Int) : Int) ≤ (Q217 a_f i8).End.Kind)) (by kernel_rfl) (fun hb => ?_) (fun hb => ?_)
              · replace h := cond_t hb h
                clear hb
                refine rgs0 Q212 hn mix (no_hand hΓ) (by kernel_rfl) ?_
                refine awp_ret ?_
                refine then_ret ?_
                refine block_ret ?_
                refine then_ret ?_
                obtain rfl := Option.some.inj h
                exact ⟨(by intro hh; cases hh), rfl, ⟨.inl rfl, [], by kernel_rfl⟩⟩
              · replace h := cond_f hb h
                clear hb
                refine awp_skip ?_
                refine then_normal ?_
                obtain ⟨x47, hx47, h⟩ := bind_some h
                obtain ⟨hc48, h⟩ := chk_some h
                obtain ⟨hc49, h⟩ := chk_some h
                obtain ⟨x50, hx50, h⟩ := bind_some h
                obtain ⟨hc51, h⟩ := chk_some h
                obtain ⟨x52, hx52, h⟩ := bind_some h
                obtain ⟨hc53, h⟩ := chk_some h
                obtain ⟨hc54, h⟩ := chk_some h
                refine rg [⟨[], [(20000, 126)], (AV.list 1 eS ([] : List Int) x47 (.own 20000)), [(20000, .tok 1 9 x47.length)]⟩, ⟨[], [], (.str x50), []⟩, ⟨[], [], (.str x52), []⟩] [(136, (AV.list 1 eI64 (0 : Int) (Q208 a_f i8) .exact))] (⟨[(1, (.ptr 1 0)), (4, (.str ((((u31 ++ (Q207 x47 a_f i8)) ++ x50) ++ x52) ++ ([10] : List Int)))), (5, (.int .i64 i8))], (Q206 a_f)⟩ : St) [(Spec Tryd.prog 31 [] [] (AV.list 1 eS ([] : List Int) x47 (.own 20000)) [(20000, .tok 1 9 x47.length)]), (InB (Q217 a_f i8).End.Kind x47.length), ((u31.length : Int) + (Q207 x47 a_f i8).length ≤ 9223372036854775807), (AVle (.slice 1 1 (fun i => ([[(.int .i64 (Q217 a_f i8).End.Arg)]] : List (List AV)).getD i []) .exact) (AV.list 1 eI64 (0 : Int) (Q208 a_f i8) .exact)), (Spec Tryd.prog 28 [(AV.list 1 eI64 (0 : Int) (Q208 a_f i8) .none)] [] (.str x50) []), (((u31 ++ (Q207 x47 a_f i8)).length : Int) + x50.length ≤ 9223372036854775807), (Spec Tryd.prog 27 [(AV.list 1 eI64 (0 : Int) (Q217 a_f i8).End.To .none)] [] (.str x52) []), ((((u31 ++ (Q207 x47 a_f i8)) ++ x50).length : Int) + x52.length ≤ 9223372036854775807), (((((u31 ++ (Q207 x47 a_f i8)) ++ x50) ++ x52).length : Int) + ([10] : List Int).length ≤ 9223372036854775807)] hn mix (no_hand hΓ) (by kernel_rfl) ⟨(ok_lockstepref05_ends  x47 hx47), hc48, hc49, (av_lit rfl (fun i hi => map_get (e := eI64) (d := (0 : Int)) (Q208 a_f i8) i hi)), (ok_lockstepref05_nums (Q208 a_f i8) x50 hx50), hc51, (ok_lockstepref05_list ((Q217 a_f i8).End.To) x52 hx52), hc53, hc54, trivial⟩ ?_
                refine block_normal ?_
                refine then_normal ?_
                refine rg0 (⟨[(1, (.ptr 1 0)), (4, (.str ((((u31 ++ (Q207 x47 a_f i8)) ++ x50) ++ x52) ++ ([10] : List Int)))), (5, (.int .i64 (w64 (i8 + (1 : Int)))))], (Q206 a_f)⟩ : St) hn mix (no_hand hΓ) (by kernel_rfl) ?_
                obtain rfl := Option.some.inj h
                exact ⟨rfl, Le.refl _ _⟩
            · rintro e st' ⟨rfl, hk⟩
              refine block_ret ?_
              refine then_ret ?_
              refine block_ret ?_
              refine then_ret ?_
              obtain rfl := Option.some.inj h
              exact ⟨(by intro hh; cases hh), rfl, hk⟩
      · replace h := cond_f hb h
        clear hb
        refine awp_exit ?_
        refine then_exit ?_
        obtain rfl := Option.some.inj h
        exact ⟨(by intro hh; cases hh), rfl, le_restrict_eq [4] [] (by kernel_rfl) (no_hand hΓ)⟩
    · clear hx56
      rcases x56 with u9 | r58
      · rintro e st' ⟨rfl, hl57⟩
        refine block_here ?_
        refine then_normal ?_
        refine awp_le hl57 ?_
        refine rgs0 (⟨[(2, (.str u9)), (3, (.int .i64 (0 : Int)))], []⟩ : St) hn mix (no_hand hΓ) (by kernel_rfl) ?_
        refine awp_ret ?_
        obtain rfl := Option.some.inj h
        exact ⟨.inl rfl, [], by kernel_rfl⟩
      · rintro e st' ⟨rfl, hk⟩
        refine block_ret ?_
        refine then_ret ?_
        obtain rfl := Option.some.inj h
        exact hk

noncomputable def m_lockstepref02_Ints_L1 (a_a : List (Int)) (a_b : List (Int)) : Int → Option (LR Int (Unit ⊕ Bool)) :=
  fun (i1 : Int) => (bif (decide ((i1 : Int) < (a_a.length : Int))) then (chk (InB i1 a_a.length) (chk (InB i1 a_b.length) (bif (((a_a.getD (i1).toNat (0 : Int)) : Int) != (a_b.getD (i1).toNat (0 : Int))) then (some (.done (.inr false))) else (some (.next (w64 (i1 + (1 : Int)))))))) else (some (.done (.inl ()))))
noncomputable def Q218 (a_a : List (Int)) : AV := (AV.list 1 eI64 (0 : Int) a_a .none)
noncomputable def Q219 (a_b : List (Int)) : AV := (AV.list 1 eI64 (0 : Int) a_b .none)
noncomputable def m_lockstepref02_Ints (a_a : List (Int)) (a_b : List (Int)) : Option Bool :=
  (bif (((a_a.length : Int) : Int) != (a_b.length : Int)) then (some false) else ((loopO (S := Int) (X := (Unit ⊕ Bool)) (m_lockstepref02_Ints_L1 a_a a_b) (0 : Int)).bind (fun x4 => (match x4 with | (.inl _) => (some true) | (.inr r6) => (some r6)))))
theorem ok_lockstepref02_Ints (a_a : List (Int)) (a_b : List (Int)) (r : Bool) (h : m_lockstepref02_Ints a_a a_b = some r) : Spec Tryd.prog 34 [(AV.list 1 eI64 (0 : Int) a_a .none), (AV.list 1 eI64 (0 : Int) a_b .none)] [] (.bool r) [] := by
  refine spec_of_awp (fn := Tryd.f34) Tryd.func34 rfl rfl (by kernel_rfl) (fun Γ hn hΓ => ?_)
  have hn : Γ.n = 26 := hn
  unfold m_lockstepref02_Ints at h
  refine rgs0 (⟨[(0, (Q218 a_a)), (1, (Q219 a_b))], []⟩ : St) hn mix (no_hand hΓ) (by kernel_rfl) ?_
  refine awp_seq ?_
  refine rgs0 (⟨[(0, (Q218 a_a)), (1, (Q219 a_b)), (10, (.bool (((a_a.length : Int) : Int) != (a_b.length : Int))))], []⟩ : St) hn mix (no_hand hΓ) (by kernel_rfl) ?_
  refine awp_cond (((a_a.length : Int) : Int) != (a_b.length : Int)) (by kernel_rfl) (fun hb => ?_) (fun hb => ?_)
  · replace h := cond_t hb h
    clear hb
    refine rgs0 (⟨[(4, (.bool false))], []⟩ : St) hn mix (no_hand hΓ) (by kernel_rfl) ?_
    refine awp_ret ?_
    refine then_ret ?_
    obtain rfl := Option.some.inj h
    exact ⟨.inl rfl, [], by kernel_rfl⟩
  · replace h := cond_f hb h
    clear hb
    refine awp_skip ?_
    refine then_normal ?_
    refine awp_seq ?_
    refine rgs0 (⟨[(0, (Q218 a_a)), (1, (Q219 a_b)), (5, (.int .i64 (0 : Int)))], []⟩ : St) hn mix (no_hand hΓ) (by kernel_rfl) ?_
    refine awp_block ?_
    refine awp_le (st' := (fun (i1 : Int) => (⟨[(0, (Q218 a_a)), (1, (Q219 a_b)), (5, (.int .i64 i1))], []⟩ : St)) (0 : Int)) (Le.refl _ _) ?_
    obtain ⟨x4, hx4, h⟩ := bind_some h
    refine awp_loop (fun (i1 : Int) => (⟨[(0, (Q218 a_a)), (1, (Q219 a_b)), (5, (.int .i64 i1))], []⟩ : St)) _ (fun (x_ : (Unit ⊕ Bool)) (e : Exit) (st : St) => match x_ with | (.inl _) => e = (.exit 0) ∧ Le Γ st (⟨[], []⟩ : St) | (.inr r_) => e = .ret ∧ retK Tryd.prog Tryd.f34.results.toList [] (.bool r_) [] e st) ?_ hx4 ?_
    · intro i1 y h
      unfold m_lockstepref02_Ints_L1 at h
      refine awp_seq ?_
      refine rgs0 (⟨[(0, (Q218 a_a)), (1, (Q219 a_b)), (5, (.int .i64 i1)), (14, (.bool (decide ((i1 : Int) < (a_a.length : Int)))))], []⟩ : St) hn mix (no_hand hΓ) (by kernel_rfl) ?_
      refine awp_cond (decide ((i1 : Int) < (a_a.length : Int))) (by kernel_rfl) (fun hb => ?_) (fun hb => ?_)
      · replace h := cond_t hb h
        clear hb
        refine awp_skip ?_
        refine then_normal ?_
        refine awp_seq ?_
        refine awp_block ?_
        obtain ⟨hc2, h⟩ := chk_some h
        obtain ⟨hc3, h⟩ := chk_some h
        refine rgs [] [] (⟨[(0, (Q218 a_a)), (1, (Q219 a_b)), (5, (.int .i64 i1)), (25, (.bool (((a_a.getD (i1).toNat (0 : Int)) : Int) != (a_b.getD (i1).toNat (0 : Int)))))], []⟩ : St) [(InB i1 a_a.length), (InB i1 a_b.length)] hn mix (no_hand hΓ) (by kernel_rfl) ⟨hc2, hc3, trivial⟩ ?_
        refine awp_cond (((a_a.getD (i1).toNat (0 : Int)) : Int) != (a_b.getD (i1).toNat (0 : Int))) (by kernel_rfl) (fun hb => ?_) (fun hb => ?_)
        · replace h := cond_t hb h
          clear hb
          refine rgs0 (⟨[(4, (.bool false))], []⟩ : St) hn mix (no_hand hΓ) (by kernel_rfl) ?_
          refine awp_ret ?_
          refine block_ret ?_
          refine then_ret ?_
          obtain rfl := Option.some.inj h
          exact ⟨(by intro hh; cases hh), rfl, ⟨.inl rfl, [], by kernel_rfl⟩⟩
        · replace h := cond_f hb h
          clear hb
          refine awp_skip ?_
          refine block_normal ?_
          refine then_normal ?_
          refine rg0 (⟨[(0, (Q218 a_a)), (1, (Q219 a_b)), (5, (.int .i64 (w64 (i1 + (1 : Int)))))], []⟩ : St) hn mix (no_hand hΓ) (by kernel_rfl) ?_
          obtain rfl := Option.some.inj h
          exact ⟨rfl, Le.refl _ _⟩
      · replace h := cond_f hb h
        clear hb
        refine awp_exit ?_
        refine then_exit ?_
        obtain rfl := Option.some.inj h
        exact ⟨(by intro hh; cases hh), rfl, le_restrict_eq [] [] (by kernel_rfl) (no_hand hΓ)⟩
    · clear hx4
      rcases x4 with _ | r6
      · rintro e st' ⟨rfl, hl5⟩
        refine block_here ?_
        refine then_normal ?_
        refine awp_le hl5 ?_
        refine rgs0 (⟨[(4, (.bool true))], []⟩ : St) hn mix (no_hand hΓ) (by kernel_rfl) ?_
        refine awp_ret ?_
        obtain rfl := Option.some.inj h
        exact ⟨.inl rfl, [], by kernel_rfl⟩
      · rintro e st' ⟨rfl, hk⟩
        refine block_ret ?_
        refine then_ret ?_
        obtain rfl := Option.some.inj h
        exact hk

noncomputable def Q222 (a_a : TOp) (a_b : TOp) := ((a_a.Dst : Int) == a_b.Dst)
noncomputable def Q224 (a_a : TOp) (a_b : TOp) := ((a_a.Imm : Int) == a_b.Imm)
noncomputable def Q223 (a_a : TOp) (a_b : TOp) := (((a_a.Kind : Int) == a_b.Kind) == true)
noncomputable def Q220 (a_a : TOp) (a_b : TOp) := (bif (bif ((a_a.Kind : Int) == a_b.Kind) then ((a_a.Bits : Int) == a_b.Bits) else false) then ((a_a.Lanes : Int) == a_b.Lanes) else false)
noncomputable def Q225 (a_a : TOp) (a_b : TOp) := (bif (Q220 a_a a_b) then (Q222 a_a a_b) else false)
noncomputable def Q226 (a_a : TOp) (a_b : TOp) := ((bif (Q225 a_a a_b) then (Q224 a_a a_b) else false) == true)
noncomputable def Q221 (a_a : TOp) (a_b : TOp) := ((bif ((a_a.Kind : Int) == a_b.Kind) then ((a_a.Bits : Int) == a_b.Bits) else false) == true)
noncomputable def m_lockstepref03_Same (a_a : TOp) (a_b : TOp) : Option Bool :=
  ((bif ((bif (bif (bif (bif ((a_a.Kind : Int) == a_b.Kind) then ((a_a.Bits : Int) == a_b.Bits) else false) then ((a_a.Lanes : Int) == a_b.Lanes) else false) then ((a_a.Dst : Int) == a_b.Dst) else false) then ((a_a.Imm : Int) == a_b.Imm) else false) == true) then m_lockstepref02_Ints a_a.Args a_b.Args else some false).bind fun x1 => (some (bif (bif (bif (bif (bif ((a_a.Kind : Int) == a_b.Kind) then ((a_a.Bits : Int) == a_b.Bits) else false) then ((a_a.Lanes : Int) == a_b.Lanes) else false) then ((a_a.Dst : Int) == a_b.Dst) else false) then ((a_a.Imm : Int) == a_b.Imm) else false) then x1 else false)))
theorem ok_lockstepref03_Same (a_a : TOp) (a_b : TOp) (r : Bool) (h : m_lockstepref03_Same a_a a_b = some r) : Spec Tryd.prog 35 [(.agg (eTOp a_a)), (.agg (eTOp a_b))] [] (.bool r) [] := by
  refine spec_of_awp (fn := Tryd.f35) Tryd.func35 rfl rfl (by kernel_rfl) (fun Γ hn hΓ => ?_)
  have hn : Γ.n = 45 := hn
  unfold m_lockstepref03_Same at h
  refine rgs0 (⟨[(2, (.ptr 2 0)), (3, (.ptr 3 0))], [(2, .row 43 [(.int .i64 a_a.Kind), (.int .i64 a_a.Bits), (.int .i64 a_a.Lanes), (.int .i64 a_a.Dst), (AV.list 1 eI64 (0 : Int) a_a.Args .none), (.int .u64 a_a.Imm)]), (3, .row 43 [(.int .i64 a_b.Kind), (.int .i64 a_b.Bits), (.int .i64 a_b.Lanes), (.int .i64 a_b.Dst), (AV.list 1 eI64 (0 : Int) a_b.Args .none), (.int .u64 a_b.Imm)])]⟩ : St) hn mix (no_hand hΓ) (by kernel_rfl) ?_
  obtain ⟨x1, hx1, h⟩ := bind_some h
  refine rgs [⟨[], [], (.bool x1), []⟩] [] (⟨[(4, (.bool (bif (bif (Q225 a_a a_b) then (Q224 a_a a_b) else false) then x1 else false)))], []⟩ : St) [((Q223 a_a a_b) = true → (Q223 a_a a_b) = true), ((Q223 a_a a_b) = true → (Q223 a_a a_b) = true), ((Q223 a_a a_b) = true → (Q223 a_a a_b) = true), ((Q223 a_a a_b) = true → (Q223 a_a a_b) = true), (((a_a.Kind : Int) == a_b.Kind) = true → (Q223 a_a a_b) = true), ((Q221 a_a a_b) = true → (Q221 a_a a_b) = true), ((Q221 a_a a_b) = true → (Q221 a_a a_b) = true), ((Q221 a_a a_b) = true → (Q221 a_a a_b) = true), ((Q221 a_a a_b) = true → (Q221 a_a a_b) = true), ((bif ((a_a.Kind : Int) == a_b.Kind) then ((a_a.Bits : Int) == a_b.Bits) else false) = true → (Q221 a_a a_b) = true), (((Q220 a_a a_b) == true) = true → ((Q220 a_a a_b) == true) = true), (((Q220 a_a a_b) == true) = true → ((Q220 a_a a_b) == true) = true), (((Q220 a_a a_b) == true) = true → ((Q220 a_a a_b) == true) = true), (((Q220 a_a a_b) == true) = true → ((Q220 a_a a_b) == true) = true), ((Q220 a_a a_b) = true → ((Q220 a_a a_b) == true) = true), (((Q225 a_a a_b) == true) = true → ((Q225 a_a a_b) == true) = true), (((Q225 a_a a_b) == true) = true → ((Q225 a_a a_b) == true) = true), (((Q225 a_a a_b) == true) = true → ((Q225 a_a a_b) == true) = true), (((Q225 a_a a_b) == true) = true → ((Q225 a_a a_b) == true) = true), ((Q225 a_a a_b) = true → ((Q225 a_a a_b) == true) = true), ((Q226 a_a a_b) = true → (Q226 a_a a_b) = true), ((Q226 a_a a_b) = true → (Q226 a_a a_b) = true), ((Q226 a_a a_b) = true → (Q226 a_a a_b) = true), ((Q226 a_a a_b) = true → (Q226 a_a a_b) = true), ((Q226 a_a a_b) = true → (Spec Tryd.prog 34 [(AV.list 1 eI64 (0 : Int) a_a.Args .none), (AV.list 1 eI64 (0 : Int) a_b.Args .none)] [] (.bool x1) [])), ((bif (Q225 a_a a_b) then (Q224 a_a a_b) else false) = true → (Q226 a_a a_b) = true)] hn mix (no_hand hΓ) (by kernel_rfl) ⟨(fun hg => hg), (fun hg => hg), (fun hg => hg), (fun hg => hg), gT, (fun hg => hg), (fun hg => hg), (fun hg => hg), (fun hg => hg), gT, (fun hg => hg), (fun hg => hg), (fun hg => hg), (fun hg => hg), gT, (fun hg => hg), (fun hg => hg), (fun hg => hg), (fun hg => hg), gT, (fun hg => hg), (fun hg => hg), (fun hg => hg), (fun hg => hg), (fun hg => (ok_lockstepref02_Ints a_a.Args a_b.Args x1 (cond_t hg hx1))), gT, trivial⟩ ?_
  refine awp_ret ?_
  obtain rfl := Option.some.inj h
  exact ⟨.inl rfl, [], by kernel_rfl⟩

noncomputable def m_lockstepref04_Same_L1 (a_a : TFunc) (a_p1 : TFunc) (i2 : Int) : Int → Option (LR Int (Unit ⊕ Bool)) :=
  fun (i6 : Int) => (bif (decide ((i6 : Int) < (((a_a.Blocks.getD (i2).toNat (default : TBlock)).Phis).length : Int))) then (chk (InB i6 ((a_a.Blocks.getD (i2).toNat (default : TBlock)).Phis).length) (chk (InB i6 ((a_p1.Blocks.getD (i2).toNat (default : TBlock)).Phis).length) ((bif ((bif (((((a_a.Blocks.getD (i2).toNat (default : TBlock)).Phis).getD (i6).toNat (default : TPhi)).Bits : Int) != (((a_p1.Blocks.getD (i2).toNat (default : TBlock)).Phis).getD (i6).toNat (default : TPhi)).Bits) then true else (((((a_a.Blocks.getD (i2).toNat (default : TBlock)).Phis).getD (i6).toNat (default : TPhi)).Dst : Int) != (((a_p1.Blocks.getD (i2).toNat (default : TBlock)).Phis).getD (i6).toNat (default : TPhi)).Dst)) == false) then m_lockstepref02_Ints ((((a_a.Blocks.getD (i2).toNat (default : TBlock)).Phis).getD (i6).toNat (default : TPhi)).From) ((((a_p1.Blocks.getD (i2).toNat (default : TBlock)).Phis).getD (i6).toNat (default : TPhi)).From) else some false).bind fun x9 => ((bif ((bif (bif (((((a_a.Blocks.getD (i2).toNat (default : TBlock)).Phis).getD (i6).toNat (default : TPhi)).Bits : Int) != (((a_p1.Blocks.getD (i2).toNat (default : TBlock)).Phis).getD (i6).toNat (default : TPhi)).Bits) then true else (((((a_a.Blocks.getD (i2).toNat (default : TBlock)).Phis).getD (i6).toNat (default : TPhi)).Dst : Int) != (((a_p1.Blocks.getD (i2).toNat (default : TBlock)).Phis).getD (i6).toNat (default : TPhi)).Dst)) then true else (!x9)) == false) then m_lockstepref02_Ints ((((a_a.Blocks.getD (i2).toNat (default : TBlock)).Phis).getD (i6).toNat (default : TPhi)).Args) ((((a_p1.Blocks.getD (i2).toNat (default : TBlock)).Phis).getD (i6).toNat (default : TPhi)).Args) else some false).bind fun x10 => (bif (bif (bif (bif (((((a_a.Blocks.getD (i2).toNat (default : TBlock)).Phis).getD (i6).toNat (default : TPhi)).Bits : Int) != (((a_p1.Blocks.getD (i2).toNat (default : TBlock)).Phis).getD (i6).toNat (default : TPhi)).Bits) then true else (((((a_a.Blocks.getD (i2).toNat (default : TBlock)).Phis).getD (i6).toNat (default : TPhi)).Dst : Int) != (((a_p1.Blocks.getD (i2).toNat (default : TBlock)).Phis).getD (i6).toNat (default : TPhi)).Dst)) then true else (!x9)) then true else (!x10)) then (some (.done (.inr false))) else (some (.next (w64 (i6 + (1 : Int)))))))))) else (some (.done (.inl ()))))
noncomputable def m_lockstepref04_Same_L2 (a_a : TFunc) (a_p1 : TFunc) (i2 : Int) : Int → Option (LR Int (Unit ⊕ Bool)) :=
  fun (i13 : Int) => (bif (decide ((i13 : Int) < (((a_a.Blocks.getD (i2).toNat (default : TBlock)).Ops).length : Int))) then (chk (InB i13 ((a_a.Blocks.getD (i2).toNat (default : TBlock)).Ops).length) (chk (InB i13 ((a_p1.Blocks.getD (i2).toNat (default : TBlock)).Ops).length) ((m_lockstepref03_Same (((a_a.Blocks.getD (i2).toNat (default : TBlock)).Ops).getD (i13).toNat (default : TOp)) (((a_p1.Blocks.getD (i2).toNat (default : TBlock)).Ops).getD (i13).toNat (default : TOp))).bind fun x16 => (bif (!x16) then (some (.done (.inr false))) else (some (.next (w64 (i13 + (1 : Int))))))))) else (some (.done (.inl ()))))
noncomputable def m_lockstepref04_Same_L3 (a_a : TFunc) (a_p1 : TFunc) : Int → Option (LR Int (Unit ⊕ Bool)) :=
  fun (i2 : Int) => (bif (decide ((i2 : Int) < (a_a.Blocks.length : Int))) then (chk (InB i2 a_a.Blocks.length) (chk (InB i2 a_p1.Blocks.length) ((bif ((bif (bif (bif (((((a_a.Blocks.getD (i2).toNat (default : TBlock)).Phis).length : Int) : Int) != (((a_p1.Blocks.getD (i2).toNat (default : TBlock)).Phis).length : Int)) then true else (((((a_a.Blocks.getD (i2).toNat (default : TBlock)).Ops).length : Int) : Int) != (((a_p1.Blocks.getD (i2).toNat (default : TBlock)).Ops).length : Int))) then true else (((a_a.Blocks.getD (i2).toNat (default : TBlock)).End.Kind : Int) != (a_p1.Blocks.getD (i2).toNat (default : TBlock)).End.Kind)) then true else (((a_a.Blocks.getD (i2).toNat (default : TBlock)).End.Arg : Int) != (a_p1.Blocks.getD (i2).toNat (default : TBlock)).End.Arg)) == false) then m_lockstepref02_Ints ((a_a.Blocks.getD (i2).toNat (default : TBlock)).End.To) ((a_p1.Blocks.getD (i2).toNat (default : TBlock)).End.To) else some false).bind fun x5 => (bif (bif (bif (bif (bif (((((a_a.Blocks.getD (i2).toNat (default : TBlock)).Phis).length : Int) : Int) != (((a_p1.Blocks.getD (i2).toNat (default : TBlock)).Phis).length : Int)) then true else (((((a_a.Blocks.getD (i2).toNat (default : TBlock)).Ops).length : Int) : Int) != (((a_p1.Blocks.getD (i2).toNat (default : TBlock)).Ops).length : Int))) then true else (((a_a.Blocks.getD (i2).toNat (default : TBlock)).End.Kind : Int) != (a_p1.Blocks.getD (i2).toNat (default : TBlock)).End.Kind)) then true else (((a_a.Blocks.getD (i2).toNat (default : TBlock)).End.Arg : Int) != (a_p1.Blocks.getD (i2).toNat (default : TBlock)).End.Arg)) then true else (!x5)) then (some (.done (.inr false))) else ((loopO (S := Int) (X := (Unit ⊕ Bool)) (m_lockstepref04_Same_L1 a_a a_p1 i2) (0 : Int)).bind (fun x11 => (match x11 with | (.inl _) => ((loopO (S := Int) (X := (Unit ⊕ Bool)) (m_lockstepref04_Same_L2 a_a a_p1 i2) (0 : Int)).bind (fun x17 => (match x17 with | (.inl _) => (some (.next (w64 (i2 + (1 : Int))))) | (.inr r19) => (some (.done (.inr r19)))))) | (.inr r20) => (some (.done (.inr r20)))))))))) else (some (.done (.inl ()))))
noncomputable def Q249 := (default : TPhi)
noncomputable def Q238 (a_a : TFunc) (i2 : Int) := (a_a.Blocks.getD (i2).toNat (default : TBlock))
noncomputable def Q239 (a_p1 : TFunc) (i2 : Int) := (a_p1.Blocks.getD (i2).toNat (default : TBlock))
noncomputable def Q228 (a_a : TFunc) (i2 : Int) (a_p1 : TFunc) := (bif (bif (((((Q238 a_a i2).Phis).length : Int) : Int) != (((Q239 a_p1 i2).Phis).length : Int)) then true else (((((Q238 a_a i2).Ops).length : Int) : Int) != (((Q239 a_p1 i2).Ops).length : Int))) then true else (((Q238 a_a i2).End.Kind : Int) != (Q239 a_p1 i2).End.Kind))
noncomputable def Q242 (a_a : TFunc) (i2 : Int) (a_p1 : TFunc) := ((Q228 a_a i2 a_p1) == false)
noncomputable def Q235 (a_a : TFunc) (a_p1 : TFunc) (x1 : Bool) := (bif ((a_a.Ret : Int) != a_p1.Ret) then true else (!x1))
noncomputable def Q243 (a_a : TFunc) (a_p1 : TFunc) (x1 : Bool) := ((Q235 a_a a_p1 x1) == false)
noncomputable def Q237 (a_a : TFunc) (a_p1 : TFunc) := (((a_a.Ret : Int) != a_p1.Ret) == false)
noncomputable def Q251 (a_p1 : TFunc) (i2 : Int) (i6 : Int) := (((Q239 a_p1 i2).Phis).getD (i6).toNat Q249)
noncomputable def Q229 (a_a : TFunc) (i2 : Int) (i6 : Int) (a_p1 : TFunc) := (bif (((((Q238 a_a i2).Phis).getD (i6).toNat Q249).Bits : Int) != (((Q239 a_p1 i2).Phis).getD (i6).toNat Q249).Bits) then true else (((((Q238 a_a i2).Phis).getD (i6).toNat Q249).Dst : Int) != (((Q239 a_p1 i2).Phis).getD (i6).toNat Q249).Dst))
noncomputable def Q241 (a_a : TFunc) (i2 : Int) (i6 : Int) (a_p1 : TFunc) (x9 : Bool) := ((bif (Q229 a_a i2 i6 a_p1) then true else (!x9)) == false)
noncomputable def Q231 (a_a : TFunc) (i2 : Int) (a_p1 : TFunc) := (((Q238 a_a i2).End.Arg : Int) != (Q239 a_p1 i2).End.Arg)
noncomputable def Q240 (a_a : TFunc) (i2 : Int) (a_p1 : TFunc) := ((bif (Q228 a_a i2 a_p1) then true else (Q231 a_a i2 a_p1)) == false)
noncomputable def Q245 (a_a : TFunc) : List AV := [(AV.list 1 eI64 (0 : Int) a_a.Params .none), (.int .i64 a_a.Ret), (AV.list 5 eTBlock (default : TBlock) a_a.Blocks .none)]
noncomputable def Q244 (a_p1 : TFunc) : List AV := [(AV.list 1 eI64 (0 : Int) a_p1.Params .none), (.int .i64 a_p1.Ret), (AV.list 5 eTBlock (default : TBlock) a_p1.Blocks .none)]
noncomputable def Q232 (a_a : TFunc) (a_p1 : TFunc) : List (Nat × Own) := [(2, .row 25 (Q245 a_a)), (3, .row 25 (Q244 a_p1))]
noncomputable def Q248 (i2 : Int) (a_a : TFunc) (a_p1 : TFunc) := (⟨[(2, (.ptr 2 0)), (3, (.ptr 3 0)), (5, (.int .i64 i2))], (Q232 a_a a_p1)⟩ : St)
noncomputable def Q250 (a_a : TFunc) (i2 : Int) : List AV := [(AV.list 4 eTPhi Q249 (Q238 a_a i2).Phis .none), (AV.list 6 eTOp (default : TOp) (Q238 a_a i2).Ops .none), (.int .i64 (Q238 a_a i2).End.Kind), (.int .i64 (Q238 a_a i2).End.Arg), (AV.list 1 eI64 (0 : Int) (Q238 a_a i2).End.To .none)]
noncomputable def Q252 (a_p1 : TFunc) (i2 : Int) : List AV := [(AV.list 4 eTPhi Q249 (Q239 a_p1 i2).Phis .none), (AV.list 6 eTOp (default : TOp) (Q239 a_p1 i2).Ops .none), (.int .i64 (Q239 a_p1 i2).End.Kind), (.int .i64 (Q239 a_p1 i2).End.Arg), (AV.list 1 eI64 (0 : Int) (Q239 a_p1 i2).End.To .none)]
noncomputable def Q227 (a_a : TFunc) (a_p1 : TFunc) (i2 : Int) : List (Nat × Own) := [(2, .row 25 (Q245 a_a)), (3, .row 25 (Q244 a_p1)), (6, .row 49 (Q250 a_a i2)), (7, .row 49 (Q252 a_p1 i2))]
noncomputable def Q247 (i2 : Int) (a_a : TFunc) (a_p1 : TFunc) := (fun (i6 : Int) => (⟨[(2, (.ptr 2 0)), (3, (.ptr 3 0)), (5, (.int .i64 i2)), (6, (.ptr 6 0)), (7, (.ptr 7 0)), (8, (.int .i64 i6))], (Q227 a_a a_p1 i2)⟩ : St))
noncomputable def Q246 (i2 : Int) (a_a : TFunc) (a_p1 : TFunc) := (fun (i13 : Int) => (⟨[(2, (.ptr 2 0)), (3, (.ptr 3 0)), (5, (.int .i64 i2)), (6, (.ptr 6 0)), (7, (.ptr 7 0)), (11, (.int .i64 i13))], (Q227 a_a a_p1 i2)⟩ : St))
noncomputable def Q233 (a_a : TFunc) (i2 : Int) (a_p1 : TFunc) := ((((((Q238 a_a i2).Phis).length : Int) : Int) != (((Q239 a_p1 i2).Phis).length : Int)) == false)
noncomputable def Q234 (a_a : TFunc) (i2 : Int) (i6 : Int) (a_p1 : TFunc) := ((((((Q238 a_a i2).Phis).getD (i6).toNat Q249).Bits : Int) != (((Q239 a_p1 i2).Phis).getD (i6).toNat Q249).Bits) == false)
noncomputable def Q230 (a_a : TFunc) (i2 : Int) (a_p1 : TFunc) := ((bif (((((Q238 a_a i2).Phis).length : Int) : Int) != (((Q239 a_p1 i2).Phis).length : Int)) then true else (((((Q238 a_a i2).Ops).length : Int) : Int) != (((Q239 a_p1 i2).Ops).length : Int))) == false)
noncomputable def Q236 (a_a : TFunc) (i2 : Int) (i6 : Int) : List AV := [(.int .i64 (((Q238 a_a i2).Phis).getD (i6).toNat Q249).Bits), (.int .i64 (((Q238 a_a i2).Phis).getD (i6).toNat Q249).Dst), (AV.list 1 eI64 (0 : Int) (((Q238 a_a i2).Phis).getD (i6).toNat Q249).From .none), (AV.list 1 eI64 (0 : Int) (((Q238 a_a i2).Phis).getD (i6).toNat Q249).Args .none)]
noncomputable def m_lockstepref04_Same (a_a : TFunc) (a_p1 : TFunc) : Option Bool :=
  ((bif (((a_a.Ret : Int) != a_p1.Ret) == false) then m_lockstepref02_Ints a_a.Params a_p1.Params else some false).bind fun x1 => (bif (bif (bif ((a_a.Ret : Int) != a_p1.Ret) then true else (!x1)) then true else (((a_a.Blocks.length : Int) : Int) != (a_p1.Blocks.length : Int))) then (some false) else ((loopO (S := Int) (X := (Unit ⊕ Bool)) (m_lockstepref04_Same_L3 a_a a_p1) (0 : Int)).bind (fun x21 => (match x21 with | (.inl _) => (some true) | (.inr r23) => (some r23))))))
theorem ok_lockstepref04_Same (a_a : TFunc) (a_p1 : TFunc) (r : Bool) (h : m_lockstepref04_Same a_a a_p1 = some r) : Spec Tryd.prog 13 [(.agg (eTFunc a_a)), (.agg (eTFunc a_p1))] [] (.bool r) [] := by
  refine spec_of_awp (fn := Tryd.f13) Tryd.func13 rfl rfl (by kernel_rfl) (fun Γ hn hΓ => ?_)
  have hn : Γ.n = 159 := hn
  unfold m_lockstepref04_Same at h
  refine rgs0 (⟨[(2, (.ptr 2 0)), (3, (.ptr 3 0))], (Q232 a_a a_p1)⟩ : St) hn mix (no_hand hΓ) (by kernel_rfl) ?_
  refine awp_seq ?_
  obtain ⟨x1, hx1, h⟩ := bind_some h
  refine rgs [⟨[], [], (.bool x1), []⟩] [] (⟨[(2, (.ptr 2 0)), (3, (.ptr 3 0)), (33, (.bool (bif (Q235 a_a a_p1 x1) then true else (((a_a.Blocks.length : Int) : Int) != (a_p1.Blocks.length : Int)))))], (Q232 a_a a_p1)⟩ : St) [((Q237 a_a a_p1) = true → (Q237 a_a a_p1) = true), ((Q237 a_a a_p1) = true → (Q237 a_a a_p1) = true), ((Q237 a_a a_p1) = true → (Q237 a_a a_p1) = true), ((Q237 a_a a_p1) = true → (Q237 a_a a_p1) = true), ((Q237 a_a a_p1) = true → (Spec Tryd.prog 34 [(AV.list 1 eI64 (0 : Int) a_a.Params .none), (AV.list 1 eI64 (0 : Int) a_p1.Params .none)] [] (.bool x1) [])), ((Q237 a_a a_p1) = true → (Q237 a_a a_p1) = true), (((a_a.Ret : Int) != a_p1.Ret) = false → (Q237 a_a a_p1) = true), ((Q243 a_a a_p1 x1) = true → (Q243 a_a a_p1 x1) = true), ((Q243 a_a a_p1 x1) = true → (Q243 a_a a_p1 x1) = true), ((Q243 a_a a_p1 x1) = true → (Q243 a_a a_p1 x1) = true), ((Q243 a_a a_p1 x1) = true → (Q243 a_a a_p1 x1) = true), ((Q243 a_a a_p1 x1) = true → (Q243 a_a a_p1 x1) = true), ((Q243 a_a a_p1 x1) = true → (Q243 a_a a_p1 x1) = true), ((Q235 a_a a_p1 x1) = false → (Q243 a_a a_p1 x1) = true)] hn mix (no_hand hΓ) (by kernel_rfl) ⟨(fun hg => hg), (fun hg => hg), (fun hg => hg), (fun hg => hg), (fun hg => (ok_lockstepref02_Ints a_a.Params a_p1.Params x1 (cond_t hg hx1))), (fun hg => hg), gF, (fun hg => hg), (fun hg => hg), (fun hg => hg), (fun hg => hg), (fun hg => hg), (fun hg => hg), gF, trivial⟩ ?_
  refine awp_cond (bif (Q235 a_a a_p1 x1) then true else (((a_a.Blocks.length : Int) : Int) != (a_p1.Blocks.length : Int))) (by kernel_rfl) (fun hb => ?_) (fun hb => ?_)
  · replace h := cond_t hb h
    clear hb
    refine rgs0 (⟨[(4, (.bool false))], []⟩ : St) hn mix (no_hand hΓ) (by kernel_rfl) ?_
    refine awp_ret ?_
    refine then_ret ?_
    obtain rfl := Option.some.inj h
    exact ⟨.inl rfl, [], by kernel_rfl⟩
  · replace h := cond_f hb h
    clear hb
    refine awp_skip ?_
    refine then_normal ?_
    refine awp_seq ?_
    refine rgs0 (⟨[(2, (.ptr 2 0)), (3, (.ptr 3 0)), (5, (.int .i64 (0 : Int)))], (Q232 a_a a_p1)⟩ : St) hn mix (no_hand hΓ) (by kernel_rfl) ?_
    refine awp_block ?_
    refine awp_le (st' := (fun (i2 : Int) => (Q248 i2 a_a a_p1)) (0 : Int)) (Le.refl _ _) ?_
    obtain ⟨x21, hx21, h⟩ := bind_some h
    refine awp_loop (fun (i2 : Int) => (Q248 i2 a_a a_p1)) _ (fun (x_ : (Unit ⊕ Bool)) (e : Exit) (st : St) => match x_ with | (.inl _) => e = (.exit 0) ∧ Le Γ st (⟨[], []⟩ : St) | (.inr r_) => e = .ret ∧ retK Tryd.prog Tryd.f13.results.toList [] (.bool r_) [] e st) ?_ hx21 ?_
    · intro i2 y h
      unfold m_lockstepref04_Same_L3 at h
      refine awp_seq ?_
      refine rgs0 (⟨[(2, (.ptr 2 0)), (3, (.ptr 3 0)), (5, (.int .i64 i2)), (38, (.bool (decide ((i2 : Int) < (a_a.Blocks.length : Int)))))], (Q232 a_a a_p1)⟩ : St) hn mix (no_hand hΓ) (by kernel_rfl) ?_
      refine awp_cond (decide ((i2 : Int) < (a_a.Blocks.length : Int))) (by kernel_rfl) (fun hb => ?_) (fun hb => ?_)
      · replace h := cond_t hb h
        clear hb
        refine awp_skip ?_
        refine then_normal ?_
        refine awp_seq ?_
        refine awp_block ?_
        obtain ⟨hc3, h⟩ := chk_some h
        refine rgs [] [] (⟨[(2, (.ptr 2 0)), (3, (.ptr 3 0)), (5, (.int .i64 i2)), (6, (.ptr 6 0))], [(2, .row 25 (Q245 a_a)), (3, .row 25 (Q244 a_p1)), (6, .row 49 (Q250 a_a i2))]⟩ : St) [(InB i2 a_a.Blocks.length)] hn mix (no_hand hΓ) (by kernel_rfl) ⟨hc3, trivial⟩ ?_
        obtain ⟨hc4, h⟩ := chk_some h
        refine rgs [] [] (⟨[(2, (.ptr 2 0)), (3, (.ptr 3 0)), (5, (.int .i64 i2)), (6, (.ptr 6 0)), (7, (.ptr 7 0))], (Q227 a_a a_p1 i2)⟩ : St) [(InB i2 a_p1.Blocks.length)] hn mix (no_hand hΓ) (by kernel_rfl) ⟨hc4, trivial⟩ ?_
        refine awp_seq ?_
        obtain ⟨x5, hx5, h⟩ := bind_some h
        refine rgs [⟨[], [], (.bool x5), []⟩] [] (⟨[(2, (.ptr 2 0)), (3, (.ptr 3 0)), (5, (.int .i64 i2)), (6, (.ptr 6 0)), (7, (.ptr 7 0)), (94, (.bool (bif (bif (Q228 a_a i2 a_p1) then true else (Q231 a_a i2 a_p1)) then true else (!x5))))], (Q227 a_a a_p1 i2)⟩ : St) [((Q233 a_a i2 a_p1) = true → (Q233 a_a i2 a_p1) = true), ((Q233 a_a i2 a_p1) = true → (Q233 a_a i2 a_p1) = true), ((Q233 a_a i2 a_p1) = true → (Q233 a_a i2 a_p1) = true), ((Q233 a_a i2 a_p1) = true → (Q233 a_a i2 a_p1) = true), ((Q233 a_a i2 a_p1) = true → (Q233 a_a i2 a_p1) = true), ((Q233 a_a i2 a_p1) = true → (Q233 a_a i2 a_p1) = true), ((((((Q238 a_a i2).Phis).length : Int) : Int) != (((Q239 a_p1 i2).Phis).length : Int)) = false → (Q233 a_a i2 a_p1) = true), ((Q230 a_a i2 a_p1) = true → (Q230 a_a i2 a_p1) = true), ((Q230 a_a i2 a_p1) = true → (Q230 a_a i2 a_p1) = true), ((Q230 a_a i2 a_p1) = true → (Q230 a_a i2 a_p1) = true), ((Q230 a_a i2 a_p1) = true → (Q230 a_a i2 a_p1) = true), ((Q230 a_a i2 a_p1) = true → (Q230 a_a i2 a_p1) = true), ((Q230 a_a i2 a_p1) = true → (Q230 a_a i2 a_p1) = true), ((bif (((((Q238 a_a i2).Phis).length : Int) : Int) != (((Q239 a_p1 i2).Phis).length : Int)) then true else (((((Q238 a_a i2).Ops).length : Int) : Int) != (((Q239 a_p1 i2).Ops).length : Int))) = false → (Q230 a_a i2 a_p1) = true), ((Q242 a_a i2 a_p1) = true → (Q242 a_a i2 a_p1) = true), ((Q242 a_a i2 a_p1) = true → (Q242 a_a i2 a_p1) = true), ((Q242 a_a i2 a_p1) = true → (Q242 a_a i2 a_p1) = true), ((Q242 a_a i2 a_p1) = true → (Q242 a_a i2 a_p1) = true), ((Q242 a_a i2 a_p1) = true → (Q242 a_a i2 a_p1) = true), ((Q242 a_a i2 a_p1) = true → (Q242 a_a i2 a_p1) = true), ((Q228 a_a i2 a_p1) = false → (Q242 a_a i2 a_p1) = true), ((Q240 a_a i2 a_p1) = true → (Q240 a_a i2 a_p1) = true), ((Q240 a_a i2 a_p1) = true → (Q240 a_a i2 a_p1) = true), ((Q240 a_a i2 a_p1) = true → (Q240 a_a i2 a_p1) = true), ((Q240 a_a i2 a_p1) = true → (Q240 a_a i2 a_p1) = true), ((Q240 a_a i2 a_p1) = true → (Q240 a_a i2 a_p1) = true), ((Q240 a_a i2 a_p1) = true → (Q240 a_a i2 a_p1) = true), ((Q240 a_a i2 a_p1) = true → (Spec Tryd.prog 34 [(AV.list 1 eI64 (0 : Int) (Q238 a_a i2).End.To .none), (AV.list 1 eI64 (0 : Int) (Q239 a_p1 i2).End.To .none)] [] (.bool x5) [])), ((Q240 a_a i2 a_p1) = true → (Q240 a_a i2 a_p1) = true), ((bif (Q228 a_a i2 a_p1) then true else (Q231 a_a i2 a_p1)) = false → (Q240 a_a i2 a_p1) = true)] hn mix (no_hand hΓ) (by kernel_rfl) ⟨(fun hg => hg), (fun hg => hg), (fun hg => hg), (fun hg => hg), (fun hg => hg), (fun hg => hg), gF, (fun hg => hg), (fun hg => hg), (fun hg => hg), (fun hg => hg), (fun hg => hg), (fun hg => hg), gF, (fun hg => hg), (fun hg => hg), (fun hg => hg), (fun hg => hg), (fun hg => hg), (fun hg => hg), gF, (fun hg => hg), (fun hg => hg), (fun hg => hg), (fun hg => hg), (fun hg => hg), (fun hg => hg), (fun hg => (ok_lockstepref02_Ints ((Q238 a_a i2).End.To) ((Q239 a_p1 i2).End.To) x5 (cond_t hg hx5))), (fun hg => hg), gF, trivial⟩ ?_
        refine awp_cond (bif (bif (Q228 a_a i2 a_p1) then true else (Q231 a_a i2 a_p1)) then true else (!x5)) (by kernel_rfl) (fun hb => ?_) (fun hb => ?_)
        · replace h := cond_t hb h
          clear hb
          refine rgs0 (⟨[(4, (.bool false))], []⟩ : St) hn mix (no_hand hΓ) (by kernel_rfl) ?_
          refine awp_ret ?_
          refine then_ret ?_
          refine block_ret ?_
          refine then_ret ?_
          obtain rfl := Option.some.inj h
          exact ⟨(by intro hh; cases hh), rfl, ⟨.inl rfl, [], by kernel_rfl⟩⟩
        · replace h := cond_f hb h
          clear hb
          refine awp_skip ?_
          refine then_normal ?_
          refine awp_seq ?_
          refine rgs0 (⟨[(2, (.ptr 2 0)), (3, (.ptr 3 0)), (5, (.int .i64 i2)), (6, (.ptr 6 0)), (7, (.ptr 7 0)), (8, (.int .i64 (0 : Int)))], (Q227 a_a a_p1 i2)⟩ : St) hn mix (no_hand hΓ) (by kernel_rfl) ?_
          refine awp_block ?_
          refine awp_le (st' := (Q247 i2 a_a a_p1) (0 : Int)) (Le.refl _ _) ?_
          obtain ⟨x11, hx11, h⟩ := bind_some h
          refine awp_loop (Q247 i2 a_a a_p1) _ (fun (x_ : (Unit ⊕ Bool)) (e : Exit) (st : St) => match x_ with | (.inl _) => e = (.exit 2) ∧ Le Γ st (⟨[(2, (.ptr 2 0)), (3, (.ptr 3 0)), (5, (.int .i64 i2)), (6, (.ptr 6 0)), (7, (.ptr 7 0))], (Q227 a_a a_p1 i2)⟩ : St) | (.inr r_) => e = .ret ∧ retK Tryd.prog Tryd.f13.results.toList [] (.bool r_) [] e st) ?_ hx11 ?_
          · intro i6 y h
            unfold m_lockstepref04_Same_L1 at h
            refine awp_seq ?_
            refine rgs0 (⟨[(2, (.ptr 2 0)), (3, (.ptr 3 0)), (5, (.int .i64 i2)), (6, (.ptr 6 0)), (7, (.ptr 7 0)), (8, (.int .i64 i6)), (99, (.bool (decide ((i6 : Int) < (((Q238 a_a i2).Phis).length : Int)))))], (Q227 a_a a_p1 i2)⟩ : St) hn mix (no_hand hΓ) (by kernel_rfl) ?_
            refine awp_cond (decide ((i6 : Int) < (((Q238 a_a i2).Phis).length : Int))) (by kernel_rfl) (fun hb => ?_) (fun hb => ?_)
            · replace h := cond_t hb h
              clear hb
              refine awp_skip ?_
              refine then_normal ?_
              refine awp_seq ?_
              refine awp_block ?_
              obtain ⟨hc7, h⟩ := chk_some h
              refine rgs [] [] (⟨[(2, (.ptr 2 0)), (3, (.ptr 3 0)), (5, (.int .i64 i2)), (6, (.ptr 6 0)), (7, (.ptr 7 0)), (8, (.int .i64 i6)), (9, (.ptr 9 0))], [(2, .row 25 (Q245 a_a)), (3, .row 25 (Q244 a_p1)), (6, .row 49 (Q250 a_a i2)), (7, .row 49 (Q252 a_p1 i2)), (9, .row 53 (Q236 a_a i2 i6))]⟩ : St) [(InB i6 ((Q238 a_a i2).Phis).length)] hn mix (no_hand hΓ) (by kernel_rfl) ⟨hc7, trivial⟩ ?_
              obtain ⟨hc8, h⟩ := chk_some h
              refine rgs [] [] (⟨[(2, (.ptr 2 0)), (3, (.ptr 3 0)), (5, (.int .i64 i2)), (6, (.ptr 6 0)), (7, (.ptr 7 0)), (8, (.int .i64 i6)), (9, (.ptr 9 0)), (10, (.ptr 10 0))], [(2, .row 25 (Q245 a_a)), (3, .row 25 (Q244 a_p1)), (6, .row 49 (Q250 a_a i2)), (7, .row 49 (Q252 a_p1 i2)), (9, .row 53 (Q236 a_a i2 i6)), (10, .row 53 [(.int .i64 (Q251 a_p1 i2 i6).Bits), (.int .i64 (Q251 a_p1 i2 i6).Dst), (AV.list 1 eI64 (0 : Int) (Q251 a_p1 i2 i6).From .none), (AV.list 1 eI64 (0 : Int) (Q251 a_p1 i2 i6).Args .none)])]⟩ : St) [(InB i6 ((Q239 a_p1 i2).Phis).length)] hn mix (no_hand hΓ) (by kernel_rfl) ⟨hc8, trivial⟩ ?_
              obtain ⟨x9, hx9, h⟩ := bind_some h
              obtain ⟨x10, hx10, h⟩ := bind_some h
              refine rgs [⟨[], [], (.bool x9), []⟩, ⟨[], [], (.bool x10), []⟩] [] (⟨[(2, (.ptr 2 0)), (3, (.ptr 3 0)), (5, (.int .i64 i2)), (6, (.ptr 6 0)), (7, (.ptr 7 0)), (8, (.int .i64 i6)), (139, (.bool (bif (bif (Q229 a_a i2 i6 a_p1) then true else (!x9)) then true else (!x10))))], (Q227 a_a a_p1 i2)⟩ : St) [((Q234 a_a i2 i6 a_p1) = true → (Q234 a_a i2 i6 a_p1) = true), ((Q234 a_a i2 i6 a_p1) = true → (Q234 a_a i2 i6 a_p1) = true), ((Q234 a_a i2 i6 a_p1) = true → (Q234 a_a i2 i6 a_p1) = true), ((Q234 a_a i2 i6 a_p1) = true → (Q234 a_a i2 i6 a_p1) = true), ((((((Q238 a_a i2).Phis).getD (i6).toNat Q249).Bits : Int) != (Q251 a_p1 i2 i6).Bits) = false → (Q234 a_a i2 i6 a_p1) = true), (((Q229 a_a i2 i6 a_p1) == false) = true → ((Q229 a_a i2 i6 a_p1) == false) = true), (((Q229 a_a i2 i6 a_p1) == false) = true → ((Q229 a_a i2 i6 a_p1) == false) = true), (((Q229 a_a i2 i6 a_p1) == false) = true → ((Q229 a_a i2 i6 a_p1) == false) = true), (((Q229 a_a i2 i6 a_p1) == false) = true → ((Q229 a_a i2 i6 a_p1) == false) = true), (((Q229 a_a i2 i6 a_p1) == false) = true → (Spec Tryd.prog 34 [(AV.list 1 eI64 (0 : Int) (((Q238 a_a i2).Phis).getD (i6).toNat Q249).From .none), (AV.list 1 eI64 (0 : Int) (Q251 a_p1 i2 i6).From .none)] [] (.bool x9) [])), (((Q229 a_a i2 i6 a_p1) == false) = true → ((Q229 a_a i2 i6 a_p1) == false) = true), ((Q229 a_a i2 i6 a_p1) = false → ((Q229 a_a i2 i6 a_p1) == false) = true), ((Q241 a_a i2 i6 a_p1 x9) = true → (Q241 a_a i2 i6 a_p1 x9) = true), ((Q241 a_a i2 i6 a_p1 x9) = true → (Q241 a_a i2 i6 a_p1 x9) = true), ((Q241 a_a i2 i6 a_p1 x9) = true → (Q241 a_a i2 i6 a_p1 x9) = true), ((Q241 a_a i2 i6 a_p1 x9) = true → (Q241 a_a i2 i6 a_p1 x9) = true), ((Q241 a_a i2 i6 a_p1 x9) = true → (Spec Tryd.prog 34 [(AV.list 1 eI64 (0 : Int) (((Q238 a_a i2).Phis).getD (i6).toNat Q249).Args .none), (AV.list 1 eI64 (0 : Int) (Q251 a_p1 i2 i6).Args .none)] [] (.bool x10) [])), ((Q241 a_a i2 i6 a_p1 x9) = true → (Q241 a_a i2 i6 a_p1 x9) = true), ((bif (Q229 a_a i2 i6 a_p1) then true else (!x9)) = false → (Q241 a_a i2 i6 a_p1 x9) = true)] hn mix (no_hand hΓ) (by kernel_rfl) ⟨(fun hg => hg), (fun hg => hg), (fun hg => hg), (fun hg => hg), gF, (fun hg => hg), (fun hg => hg), (fun hg => hg), (fun hg => hg), (fun hg => (ok_lockstepref02_Ints ((((Q238 a_a i2).Phis).getD (i6).toNat Q249).From) ((Q251 a_p1 i2 i6).From) x9 (cond_t hg hx9))), (fun hg => hg), gF, (fun hg => hg), (fun hg => hg), (fun hg => hg), (fun hg => hg), (fun hg => (ok_lockstepref02_Ints ((((Q238 a_a i2).Phis).getD (i6).toNat Q249).Args) ((Q251 a_p1 i2 i6).Args) x10 (cond_t hg hx10))), (fun hg => hg), gF, trivial⟩ ?_
              refine awp_cond (bif (bif (Q229 a_a i2 i6 a_p1) then true else (!x9)) then true else (!x10)) (by kernel_rfl) (fun hb => ?_) (fun hb => ?_)
              · replace h := cond_t hb h
                clear hb
                refine rgs0 (⟨[(4, (.bool false))], []⟩ : St) hn mix (no_hand hΓ) (by kernel_rfl) ?_
                refine awp_ret ?_
                refine block_ret ?_
                refine then_ret ?_
                obtain rfl := Option.some.inj h
                exact ⟨(by intro hh; cases hh), rfl, ⟨.inl rfl, [], by kernel_rfl⟩⟩
              · replace h := cond_f hb h
                clear hb
                refine awp_skip ?_
                refine block_normal ?_
                refine then_normal ?_
                refine rg0 (⟨[(2, (.ptr 2 0)), (3, (.ptr 3 0)), (5, (.int .i64 i2)), (6, (.ptr 6 0)), (7, (.ptr 7 0)), (8, (.int .i64 (w64 (i6 + (1 : Int)))))], (Q227 a_a a_p1 i2)⟩ : St) hn mix (no_hand hΓ) (by kernel_rfl) ?_
                obtain rfl := Option.some.inj h
                exact ⟨rfl, Le.refl _ _⟩
            · replace h := cond_f hb h
              clear hb
              refine awp_exit ?_
              refine then_exit ?_
              obtain rfl := Option.some.inj h
              exact ⟨(by intro hh; cases hh), rfl, le_restrict_eq [2, 3, 5, 6, 7] [2, 3, 6, 7] (by kernel_rfl) (no_hand hΓ)⟩
          · clear hx11
            rcases x11 with _ | r20
            · rintro e st' ⟨rfl, hl12⟩
              refine block_here ?_
              refine then_normal ?_
              refine awp_le hl12 ?_
              refine rgs0 (⟨[(2, (.ptr 2 0)), (3, (.ptr 3 0)), (5, (.int .i64 i2)), (6, (.ptr 6 0)), (7, (.ptr 7 0)), (11, (.int .i64 (0 : Int)))], (Q227 a_a a_p1 i2)⟩ : St) hn mix (no_hand hΓ) (by kernel_rfl) ?_
              refine awp_block ?_
              refine awp_le (st' := (Q246 i2 a_a a_p1) (0 : Int)) (Le.refl _ _) ?_
              obtain ⟨x17, hx17, h⟩ := bind_some h
              refine awp_loop (Q246 i2 a_a a_p1) _ (fun (x_ : (Unit ⊕ Bool)) (e : Exit) (st : St) => match x_ with | (.inl _) => e = (.exit 4) ∧ Le Γ st (Q248 i2 a_a a_p1) | (.inr r_) => e = .ret ∧ retK Tryd.prog Tryd.f13.results.toList [] (.bool r_) [] e st) ?_ hx17 ?_
              · intro i13 y h
                unfold m_lockstepref04_Same_L2 at h
                refine awp_seq ?_
                refine rgs0 (⟨[(2, (.ptr 2 0)), (3, (.ptr 3 0)), (5, (.int .i64 i2)), (6, (.ptr 6 0)), (7, (.ptr 7 0)), (11, (.int .i64 i13)), (144, (.bool (decide ((i13 : Int) < (((Q238 a_a i2).Ops).length : Int)))))], (Q227 a_a a_p1 i2)⟩ : St) hn mix (no_hand hΓ) (by kernel_rfl) ?_
                refine awp_cond (decide ((i13 : Int) < (((Q238 a_a i2).Ops).length : Int))) (by kernel_rfl) (fun hb => ?_) (fun hb => ?_)
                · replace h := cond_t hb h
                  clear hb
                  refine awp_skip ?_
                  refine then_normal ?_
                  refine awp_seq ?_
                  refine awp_block ?_
                  obtain ⟨hc14, h⟩ := chk_some h
                  obtain ⟨hc15, h⟩ := chk_some h
                  obtain ⟨x16, hx16, h⟩ := bind_some h
                  refine rgs [⟨[], [], (.bool x16), []⟩] [] (⟨[(2, (.ptr 2 0)), (3, (.ptr 3 0)), (5, (.int .i64 i2)), (6, (.ptr 6 0)), (7, (.ptr 7 0)), (11, (.int .i64 i13)), (158, (.bool (!x16)))], (Q227 a_a a_p1 i2)⟩ : St) [(InB i13 ((Q238 a_a i2).Ops).length), (InB i13 ((Q239 a_p1 i2).Ops).length), (Spec Tryd.prog 35 [(.agg (eTOp (((Q238 a_a i2).Ops).getD (i13).toNat (default : TOp)))), (.agg (eTOp (((Q239 a_p1 i2).Ops).getD (i13).toNat (default : TOp))))] [] (.bool x16) [])] hn mix (no_hand hΓ) (by kernel_rfl) ⟨hc14, hc15, (ok_lockstepref03_Same (((Q238 a_a i2).Ops).getD (i13).toNat (default : TOp)) (((Q239 a_p1 i2).Ops).getD (i13).toNat (default : TOp)) x16 hx16), trivial⟩ ?_
                  refine awp_cond (!x16) (by kernel_rfl) (fun hb => ?_) (fun hb => ?_)
                  · replace h := cond_t hb h
                    clear hb
                    refine rgs0 (⟨[(4, (.bool false))], []⟩ : St) hn mix (no_hand hΓ) (by kernel_rfl) ?_
                    refine awp_ret ?_
                    refine block_ret ?_
                    refine then_ret ?_
                    obtain rfl := Option.some.inj h
                    exact ⟨(by intro hh; cases hh), rfl, ⟨.inl rfl, [], by kernel_rfl⟩⟩
                  · replace h := cond_f hb h
                    clear hb
                    refine awp_skip ?_
                    refine block_normal ?_
                    refine then_normal ?_
                    refine rg0 (⟨[(2, (.ptr 2 0)), (3, (.ptr 3 0)), (5, (.int .i64 i2)), (6, (.ptr 6 0)), (7, (.ptr 7 0)), (11, (.int .i64 (w64 (i13 + (1 : Int)))))], (Q227 a_a a_p1 i2)⟩ : St) hn mix (no_hand hΓ) (by kernel_rfl) ?_
                    obtain rfl := Option.some.inj h
                    exact ⟨rfl, Le.refl _ _⟩
                · replace h := cond_f hb h
                  clear hb
                  refine awp_exit ?_
                  refine then_exit ?_
                  obtain rfl := Option.some.inj h
                  exact ⟨(by intro hh; cases hh), rfl, le_restrict_eq [2, 3, 5] [2, 3] (by kernel_rfl) (no_hand hΓ)⟩
              · clear hx17
                rcases x17 with _ | r19
                · rintro e st' ⟨rfl, hl18⟩
                  refine block_here ?_
                  refine block_normal ?_
                  refine then_normal ?_
                  refine awp_le hl18 ?_
                  refine rg0 (⟨[(2, (.ptr 2 0)), (3, (.ptr 3 0)), (5, (.int .i64 (w64 (i2 + (1 : Int)))))], (Q232 a_a a_p1)⟩ : St) hn mix (no_hand hΓ) (by kernel_rfl) ?_
                  obtain rfl := Option.some.inj h
                  exact ⟨rfl, Le.refl _ _⟩
                · rintro e st' ⟨rfl, hk⟩
                  refine block_ret ?_
                  refine block_ret ?_
                  refine then_ret ?_
                  obtain rfl := Option.some.inj h
                  exact ⟨(by intro hh; cases hh), rfl, hk⟩
            · rintro e st' ⟨rfl, hk⟩
              refine block_ret ?_
              refine then_ret ?_
              refine block_ret ?_
              refine then_ret ?_
              obtain rfl := Option.some.inj h
              exact ⟨(by intro hh; cases hh), rfl, hk⟩
      · replace h := cond_f hb h
        clear hb
        refine awp_exit ?_
        refine then_exit ?_
        obtain rfl := Option.some.inj h
        exact ⟨(by intro hh; cases hh), rfl, le_restrict_eq [] [] (by kernel_rfl) (no_hand hΓ)⟩
    · clear hx21
      rcases x21 with _ | r23
      · rintro e st' ⟨rfl, hl22⟩
        refine block_here ?_
        refine then_normal ?_
        refine awp_le hl22 ?_
        refine rgs0 (⟨[(4, (.bool true))], []⟩ : St) hn mix (no_hand hΓ) (by kernel_rfl) ?_
        refine awp_ret ?_
        obtain rfl := Option.some.inj h
        exact ⟨.inl rfl, [], by kernel_rfl⟩
      · rintro e st' ⟨rfl, hk⟩
        refine block_ret ?_
        refine then_ret ?_
        obtain rfl := Option.some.inj h
        exact hk

noncomputable def Q254 (x5 : (TFunc × Int)) := (((x5.2 : Int) == (0 : Int)) == true)
noncomputable def Q253 (a_f : TFunc) : List AV := [(AV.list 1 eI64 (0 : Int) a_f.Params .none), (.int .i64 a_f.Ret), (AV.list 5 eTBlock (default : TBlock) a_f.Blocks .none)]
noncomputable def m_locksteplaw05_TextTells (a_f : TFunc) : Option Bool :=
  ((m_locksteplaw05_awake).bind fun x1 => (bif (!x1) then (some false) else ((m_lockstepref04_Small a_f).bind fun x2 => (bif (!x2) then (some true) else ((m_text_Print a_f).bind fun x3 => ((m_lockstepref05_Print a_f).bind fun x4 => (bif (bif (!((x3.1 : List Int) == x4.1)) then true else ((x3.2 : Int) != x4.2)) then (some false) else (bif ((x3.2 : Int) != (0 : Int)) then (some true) else ((m_text_Parse x3.1).bind fun x5 => ((bif (((x5.2 : Int) == (0 : Int)) == true) then m_lockstepref04_Same x5.1 a_f else some false).bind fun x6 => (some (bif ((x5.2 : Int) == (0 : Int)) then x6 else false))))))))))))
theorem ok_locksteplaw05_TextTells (a_f : TFunc) (r : Bool) (h : m_locksteplaw05_TextTells a_f = some r) : Spec Tryd.prog 3 [(.agg (eTFunc a_f))] [] (.bool r) [] := by
  refine spec_of_awp (fn := Tryd.f3) Tryd.func3 rfl rfl (by kernel_rfl) (fun Γ hn hΓ => ?_)
  have hn : Γ.n = 46 := hn
  unfold m_locksteplaw05_TextTells at h
  refine rgs0 (⟨[(1, (.ptr 1 0))], [(1, .row 25 (Q253 a_f))]⟩ : St) hn mix (no_hand hΓ) (by kernel_rfl) ?_
  refine awp_seq ?_
  obtain ⟨x1, hx1, h⟩ := bind_some h
  refine rgs [⟨[], [], (.bool x1), []⟩] [] (⟨[(1, (.ptr 1 0)), (10, (.bool (!x1)))], [(1, .row 25 (Q253 a_f))]⟩ : St) [(Spec Tryd.prog 8 [] [] (.bool x1) [])] hn mix (no_hand hΓ) (by kernel_rfl) ⟨(ok_locksteplaw05_awake  x1 hx1), trivial⟩ ?_
  refine awp_cond (!x1) (by kernel_rfl) (fun hb => ?_) (fun hb => ?_)
  · replace h := cond_t hb h
    clear hb
    refine rgs0 (⟨[(2, (.bool false))], []⟩ : St) hn mix (no_hand hΓ) (by kernel_rfl) ?_
    refine awp_ret ?_
    refine then_ret ?_
    obtain rfl := Option.some.inj h
    exact ⟨.inl rfl, [], by kernel_rfl⟩
  · replace h := cond_f hb h
    clear hb
    refine awp_skip ?_
    refine then_normal ?_
    refine awp_seq ?_
    obtain ⟨x2, hx2, h⟩ := bind_some h
    refine rgs [⟨[], [], (.bool x2), []⟩] [] (⟨[(1, (.ptr 1 0)), (13, (.bool (!x2)))], [(1, .row 25 (Q253 a_f))]⟩ : St) [(Spec Tryd.prog 9 [(.agg (eTFunc a_f))] [] (.bool x2) [])] hn mix (no_hand hΓ) (by kernel_rfl) ⟨(ok_lockstepref04_Small a_f x2 hx2), trivial⟩ ?_
    refine awp_cond (!x2) (by kernel_rfl) (fun hb => ?_) (fun hb => ?_)
    · replace h := cond_t hb h
      clear hb
      refine rgs0 (⟨[(2, (.bool true))], []⟩ : St) hn mix (no_hand hΓ) (by kernel_rfl) ?_
      refine awp_ret ?_
      refine then_ret ?_
      obtain rfl := Option.some.inj h
      exact ⟨.inl rfl, [], by kernel_rfl⟩
    · replace h := cond_f hb h
      clear hb
      refine awp_skip ?_
      refine then_normal ?_
      obtain ⟨x3, hx3, h⟩ := bind_some h
      refine rgs [⟨[], [], (.tuple [(.str x3.1), (.int .i64 x3.2)]), []⟩] [] (⟨[(1, (.ptr 1 0)), (3, (.str x3.1)), (4, (.int .i64 x3.2))], [(1, .row 25 (Q253 a_f))]⟩ : St) [(Spec Tryd.prog 10 [(.agg (eTFunc a_f))] [] (.tuple [(.str x3.1), (.int .i64 x3.2)]) [])] hn mix (no_hand hΓ) (by kernel_rfl) ⟨(ok_text_Print a_f x3 hx3), trivial⟩ ?_
      obtain ⟨x4, hx4, h⟩ := bind_some h
      refine rgs [⟨[], [], (.tuple [(.str x4.1), (.int .i64 x4.2)]), []⟩] [] (⟨[(1, (.ptr 1 0)), (3, (.str x3.1)), (4, (.int .i64 x3.2)), (5, (.str x4.1)), (6, (.int .i64 x4.2))], [(1, .row 25 (Q253 a_f))]⟩ : St) [(Spec Tryd.prog 11 [(.agg (eTFunc a_f))] [] (.tuple [(.str x4.1), (.int .i64 x4.2)]) [])] hn mix (no_hand hΓ) (by kernel_rfl) ⟨(ok_lockstepref05_Print a_f x4 hx4), trivial⟩ ?_
      refine awp_seq ?_
      refine rgs [] [] (⟨[(1, (.ptr 1 0)), (3, (.str x3.1)), (4, (.int .i64 x3.2)), (31, (.bool (bif (!((x3.1 : List Int) == x4.1)) then true else ((x3.2 : Int) != x4.2))))], [(1, .row 25 (Q253 a_f))]⟩ : St) [(((!((x3.1 : List Int) == x4.1)) == false) = true → ((!((x3.1 : List Int) == x4.1)) == false) = true), (((!((x3.1 : List Int) == x4.1)) == false) = true → ((!((x3.1 : List Int) == x4.1)) == false) = true), ((!((x3.1 : List Int) == x4.1)) = false → ((!((x3.1 : List Int) == x4.1)) == false) = true)] hn mix (no_hand hΓ) (by kernel_rfl) ⟨(fun hg => hg), (fun hg => hg), gF, trivial⟩ ?_
      refine awp_cond (bif (!((x3.1 : List Int) == x4.1)) then true else ((x3.2 : Int) != x4.2)) (by kernel_rfl) (fun hb => ?_) (fun hb => ?_)
      · replace h := cond_t hb h
        clear hb
        refine rgs0 (⟨[(2, (.bool false))], []⟩ : St) hn mix (no_hand hΓ) (by kernel_rfl) ?_
        refine awp_ret ?_
        refine then_ret ?_
        obtain rfl := Option.some.inj h
        exact ⟨.inl rfl, [], by kernel_rfl⟩
      · replace h := cond_f hb h
        clear hb
        refine awp_skip ?_
        refine then_normal ?_
        refine awp_seq ?_
        refine rgs0 (⟨[(1, (.ptr 1 0)), (3, (.str x3.1)), (33, (.bool ((x3.2 : Int) != (0 : Int))))], [(1, .row 25 (Q253 a_f))]⟩ : St) hn mix (no_hand hΓ) (by kernel_rfl) ?_
        refine awp_cond ((x3.2 : Int) != (0 : Int)) (by kernel_rfl) (fun hb => ?_) (fun hb => ?_)
        · replace h := cond_t hb h
          clear hb
          refine rgs0 (⟨[(2, (.bool true))], []⟩ : St) hn mix (no_hand hΓ) (by kernel_rfl) ?_
          refine awp_ret ?_
          refine then_ret ?_
          obtain rfl := Option.some.inj h
          exact ⟨.inl rfl, [], by kernel_rfl⟩
        · replace h := cond_f hb h
          clear hb
          refine awp_skip ?_
          refine then_normal ?_
          obtain ⟨x5, hx5, h⟩ := bind_some h
          refine rgs [⟨[], [], (.tuple [(.agg (eTFunc x5.1)), (.int .i64 x5.2)]), []⟩] [] (⟨[(1, (.ptr 1 0)), (7, (.ptr 7 0)), (8, (.int .i64 x5.2))], [(1, .row 25 (Q253 a_f)), (7, .row 25 [(AV.list 1 eI64 (0 : Int) x5.1.Params .none), (.int .i64 x5.1.Ret), (AV.list 5 eTBlock (default : TBlock) x5.1.Blocks .none)])]⟩ : St) [(Spec Tryd.prog 12 [(.str x3.1)] [] (.tuple [(.agg (eTFunc x5.1)), (.int .i64 x5.2)]) [])] hn mix (no_hand hΓ) (by kernel_rfl) ⟨(ok_text_Parse x3.1 x5 hx5), trivial⟩ ?_
          obtain ⟨x6, hx6, h⟩ := bind_some h
          refine rgs [⟨[], [], (.bool x6), []⟩] [] (⟨[(2, (.bool (bif ((x5.2 : Int) == (0 : Int)) then x6 else false)))], []⟩ : St) [((Q254 x5) = true → (Q254 x5) = true), ((Q254 x5) = true → (Q254 x5) = true), ((Q254 x5) = true → (Spec Tryd.prog 13 [(.agg (eTFunc x5.1)), (.agg (eTFunc a_f))] [] (.bool x6) [])), (((x5.2 : Int) == (0 : Int)) = true → (Q254 x5) = true)] hn mix (no_hand hΓ) (by kernel_rfl) ⟨(fun hg => hg), (fun hg => hg), (fun hg => (ok_lockstepref04_Same x5.1 a_f x6 (cond_t hg hx6))), gT, trivial⟩ ?_
          refine awp_ret ?_
          obtain rfl := Option.some.inj h
          exact ⟨.inl rfl, [], by kernel_rfl⟩

noncomputable def m_lockstepref05_Words_L1 (a_s : List Int) : (List (List Int) × List Int × Int) → Option (LR (List (List Int) × List Int × Int) (List (List Int))) :=
  fun ((l1, u2, i3) : (List (List Int) × List Int × Int)) => (bif (decide ((i3 : Int) ≤ (a_s.length : Int))) then (Option.bind (α := (List (List Int) × List Int)) (chk ((((i3 : Int) == (a_s.length : Int)) == false) = true → (InB i3 a_s.length)) (chk (((bif ((i3 : Int) == (a_s.length : Int)) then true else (((a_s.getD (i3).toNat 0) : Int) == (32 : Int))) == false) = true → (InB i3 a_s.length)) (chk (((bif (bif ((i3 : Int) == (a_s.length : Int)) then true else (((a_s.getD (i3).toNat 0) : Int) == (32 : Int))) then true else (((a_s.getD (i3).toNat 0) : Int) == (10 : Int))) == false) = true → (InB i3 a_s.length)) (chk (((bif (bif (bif ((i3 : Int) == (a_s.length : Int)) then true else (((a_s.getD (i3).toNat 0) : Int) == (32 : Int))) then true else (((a_s.getD (i3).toNat 0) : Int) == (10 : Int))) then true else (((a_s.getD (i3).toNat 0) : Int) == (40 : Int))) == false) = true → (InB i3 a_s.length)) (bif (bif (bif (bif (bif ((i3 : Int) == (a_s.length : Int)) then true else (((a_s.getD (i3).toNat 0) : Int) == (32 : Int))) then true else (((a_s.getD (i3).toNat 0) : Int) == (10 : Int))) then true else (((a_s.getD (i3).toNat 0) : Int) == (40 : Int))) then true else (((a_s.getD (i3).toNat 0) : Int) == (41 : Int))) then (Option.bind (α := List (List Int)) (bif (!((u2 : List Int) == ([] : List Int))) then (chk (l1.length + ([u2] : List (List Int)).length ≤ room) (some ((l1 ++ ([u2] : List (List Int)))))) else (some (l1))) (fun x13 => ((chk (((decide ((i3 : Int) < (a_s.length : Int))) == true) = true → (InB i3 a_s.length)) (chk ((((decide ((i3 : Int) < (a_s.length : Int))) == true) && ((((a_s.getD (i3).toNat 0) : Int) == (40 : Int)) == false)) = true → (InB i3 a_s.length)) (bif (bif (decide ((i3 : Int) < (a_s.length : Int))) then (bif (((a_s.getD (i3).toNat 0) : Int) == (40 : Int)) then true else (((a_s.getD (i3).toNat 0) : Int) == (41 : Int))) else false) then (chk (0 ≤ i3 ∧ i3 ≤ (w64 (i3 + (1 : Int))) ∧ (w64 (i3 + (1 : Int))) ≤ (a_s.length : Int)) (chk (x13.length + ([((a_s.drop (i3).toNat).take (((w64 (i3 + (1 : Int)))).toNat - (i3).toNat))] : List (List Int)).length ≤ room) (some (((x13 ++ ([((a_s.drop (i3).toNat).take (((w64 (i3 + (1 : Int)))).toNat - (i3).toNat))] : List (List Int))), ([] : List Int)))))) else (some ((x13, ([] : List Int)))))))))) else (chk (0 ≤ i3 ∧ i3 ≤ (w64 (i3 + (1 : Int))) ∧ (w64 (i3 + (1 : Int))) ≤ (a_s.length : Int)) (chk ((u2.length : Int) + ((a_s.drop (i3).toNat).take (((w64 (i3 + (1 : Int)))).toNat - (i3).toNat)).length ≤ 9223372036854775807) (some ((l1, (u2 ++ ((a_s.drop (i3).toNat).take (((w64 (i3 + (1 : Int)))).toNat - (i3).toNat))))))))))))) (fun x21 => (match x21 with | (l5, u6) => (some (.next (l5, u6, (w64 (i3 + (1 : Int))))))))) else (some (.done l1)))
noncomputable def Q263 (u2 : List Int) := ([u2] : List (List Int))
noncomputable def Q257 (i3 : Int) (a_s : List Int) := ((decide ((i3 : Int) < (a_s.length : Int))) == true)
noncomputable def Q258 (a_s : List Int) (i3 : Int) := (((a_s.getD (i3).toNat 0) : Int) == (40 : Int))
noncomputable def Q265 (i3 : Int) (a_s : List Int) := ((Q257 i3 a_s) && ((Q258 a_s i3) == false))
noncomputable def Q261 (i3 : Int) (a_s : List Int) := (((i3 : Int) == (a_s.length : Int)) == false)
noncomputable def Q262 (l1 : List (List Int)) : AV := (AV.list 1 eS ([] : List Int) l1 (.own 5003))
noncomputable def Q255 (i3 : Int) (a_s : List Int) := (bif (bif ((i3 : Int) == (a_s.length : Int)) then true else (((a_s.getD (i3).toNat 0) : Int) == (32 : Int))) then true else (((a_s.getD (i3).toNat 0) : Int) == (10 : Int)))
noncomputable def Q264 (i3 : Int) (a_s : List Int) := (bif (Q255 i3 a_s) then true else (Q258 a_s i3))
noncomputable def Q260 : AV := (AV.list 1 eS ([] : List Int) ([] : List (List Int)) .exact)
noncomputable def Q267 (a_s : List Int) (i3 : Int) := ((a_s.drop (i3).toNat).take (((w64 (i3 + (1 : Int)))).toNat - (i3).toNat))
noncomputable def Q256 (a_s : List Int) (i3 : Int) := ([(Q267 a_s i3)] : List (List Int))
noncomputable def Q259 (i3 : Int) (a_s : List Int) := ((bif ((i3 : Int) == (a_s.length : Int)) then true else (((a_s.getD (i3).toNat 0) : Int) == (32 : Int))) == false)
noncomputable def Q266 (i3 : Int) (a_s : List Int) := (bif (decide ((i3 : Int) < (a_s.length : Int))) then (bif (Q258 a_s i3) then true else (((a_s.getD (i3).toNat 0) : Int) == (41 : Int))) else false)
noncomputable def m_lockstepref05_Words (a_s : List Int) : Option (List (List Int)) :=
  ((loopO (S := (List (List Int) × List Int × Int)) (X := List (List Int)) (m_lockstepref05_Words_L1 a_s) (([] : List (List Int)), ([] : List Int), (0 : Int))).bind (fun x23 => ((some x23))))
theorem ok_lockstepref05_Words (a_s : List Int) (r : List (List Int)) (h : m_lockstepref05_Words a_s = some r) : Spec Tryd.prog 17 [(.str a_s)] [] (AV.list 1 eS ([] : List Int) r (.own 20000)) [(20000, .tok 1 9 r.length)] := by
  refine spec_of_awp (fn := Tryd.f17) Tryd.func17 rfl rfl (by kernel_rfl) (fun Γ hn hΓ => ?_)
  have hn : Γ.n = 78 := hn
  unfold m_lockstepref05_Words at h
  refine rgs [] [(2, Q260)] (⟨[(0, (.str a_s))], []⟩ : St) [(AVle (.slice 0 0 (fun _ => []) .exact) Q260)] hn mix (no_hand hΓ) (by kernel_rfl) ⟨av_nil, trivial⟩ ?_
  refine rgs [] [(3, Q260)] (⟨[(0, (.str a_s)), (3, Q260)], []⟩ : St) [(AVle (.slice 0 0 (fun _ => []) .exact) Q260)] hn mix (no_hand hΓ) (by kernel_rfl) ⟨av_nil, trivial⟩ ?_
  refine rgs0 (⟨[(0, (.str a_s)), (3, Q260), (4, (.str ([] : List Int)))], []⟩ : St) hn mix (no_hand hΓ) (by kernel_rfl) ?_
  refine awp_seq ?_
  refine rgs0 (⟨[(0, (.str a_s)), (3, Q260), (4, (.str ([] : List Int))), (5, (.int .i64 (0 : Int)))], []⟩ : St) hn mix (no_hand hΓ) (by kernel_rfl) ?_
  refine awp_block ?_
  refine awp_le (st' := (fun ((l1, u2, i3) : (List (List Int) × List Int × Int)) => (⟨[(0, (.str a_s)), (3, (Q262 l1)), (4, (.str u2)), (5, (.int .i64 i3))], [(5003, .tok 1 9 l1.length)]⟩ : St)) (([] : List (List Int)), ([] : List Int), (0 : Int))) (Le.trans (le_restrict_eq (st' := (⟨[(0, (.str a_s)), (3, Q260), (4, (.str ([] : List Int))), (5, (.int .i64 (0 : Int)))], []⟩ : St)) [0, 3, 4, 5] [] (by kernel_rfl) (no_hand hΓ)) (Le.trans (le_tag (t := 3) (nm := 5003) (sz' := 1) (fun i => eS (([] : List (List Int)).getD i ([] : List Int))) 9 rfl rfl (.inl ⟨rfl, rfl⟩) (fun h_ => absurd h_ (by decide))) (le_restrict_eq (st' := (⟨[(0, (.str a_s)), (3, (AV.list 1 eS ([] : List Int) ([] : List (List Int)) (.own 5003))), (4, (.str ([] : List Int))), (5, (.int .i64 (0 : Int)))], [(5003, .tok 1 9 (([] : List (List Int)).length))]⟩ : St)) [0, 3, 4, 5] [5003] (by kernel_rfl) (no_hand hΓ)))) ?_
  obtain ⟨x23, hx23, h⟩ := bind_some h
  refine awp_loop (fun ((l1, u2, i3) : (List (List Int) × List Int × Int)) => (⟨[(0, (.str a_s)), (3, (Q262 l1)), (4, (.str u2)), (5, (.int .i64 i3))], [(5003, .tok 1 9 l1.length)]⟩ : St)) _ (fun (l4 : List (List Int)) (e : Exit) (st : St) => e = (.exit 0) ∧ Le Γ st (⟨[(3, (AV.list 1 eS ([] : List Int) l4 (.own 5003)))], [(5003, .tok 1 9 l4.length)]⟩ : St)) ?_ hx23 ?_
  · rintro ⟨l1, u2, i3⟩ y h
    unfold m_lockstepref05_Words_L1 at h
    refine awp_seq ?_
    refine rgs0 (⟨[(0, (.str a_s)), (3, (Q262 l1)), (4, (.str u2)), (5, (.int .i64 i3)), (9, (.bool (decide ((i3 : Int) ≤ (a_s.length : Int)))))], [(5003, .tok 1 9 l1.length)]⟩ : St) hn mix (no_hand hΓ) (by kernel_rfl) ?_
    refine awp_cond (decide ((i3 : Int) ≤ (a_s.length : Int))) (by kernel_rfl) (fun hb => ?_) (fun hb => ?_)
    · replace h := cond_t hb h
      clear hb
      refine awp_skip ?_
      refine then_normal ?_
      refine awp_seq ?_
      obtain ⟨x21, hx21, h⟩ := bind_some h
      refine awp_join (fun ((l5, u6) : (List (List Int) × List Int)) (e : Exit) (st : St) => e = .normal ∧ Le Γ st (⟨[(0, (.str a_s)), (3, (AV.list 1 eS ([] : List Int) l5 (.own 5003))), (4, (.str u6)), (5, (.int .i64 i3))], [(5003, .tok 1 9 l5.length)]⟩ : St)) hx21 ?_ ?_
      · clear h hx21
        intro y h
        refine awp_block ?_
        obtain ⟨hc7, h⟩ := chk_some h
        obtain ⟨hc8, h⟩ := chk_some h
        obtain ⟨hc9, h⟩ := chk_some h
        obtain ⟨hc10, h⟩ := chk_some h
        refine rgs [] [] (⟨[(0, (.str a_s)), (3, (Q262 l1)), (4, (.str u2)), (5, (.int .i64 i3)), (39, (.bool (bif (Q264 i3 a_s) then true else (((a_s.getD (i3).toNat 0) : Int) == (41 : Int)))))], [(5003, .tok 1 9 l1.length)]⟩ : St) [((Q261 i3 a_s) = true → (Q261 i3 a_s) = true), ((Q261 i3 a_s) = true → (Q261 i3 a_s) = true), ((Q261 i3 a_s) = true → (InB i3 a_s.length)), ((Q261 i3 a_s) = true → (Q261 i3 a_s) = true), (((i3 : Int) == (a_s.length : Int)) = false → (Q261 i3 a_s) = true), ((Q259 i3 a_s) = true → (Q259 i3 a_s) = true), ((Q259 i3 a_s) = true → (Q259 i3 a_s) = true), ((Q259 i3 a_s) = true → (InB i3 a_s.length)), ((Q259 i3 a_s) = true → (Q259 i3 a_s) = true), ((bif ((i3 : Int) == (a_s.length : Int)) then true else (((a_s.getD (i3).toNat 0) : Int) == (32 : Int))) = false → (Q259 i3 a_s) = true), (((Q255 i3 a_s) == false) = true → ((Q255 i3 a_s) == false) = true), (((Q255 i3 a_s) == false) = true → ((Q255 i3 a_s) == false) = true), (((Q255 i3 a_s) == false) = true → (InB i3 a_s.length)), (((Q255 i3 a_s) == false) = true → ((Q255 i3 a_s) == false) = true), ((Q255 i3 a_s) = false → ((Q255 i3 a_s) == false) = true), (((Q264 i3 a_s) == false) = true → ((Q264 i3 a_s) == false) = true), (((Q264 i3 a_s) == false) = true → ((Q264 i3 a_s) == false) = true), (((Q264 i3 a_s) == false) = true → (InB i3 a_s.length)), (((Q264 i3 a_s) == false) = true → ((Q264 i3 a_s) == false) = true), ((Q264 i3 a_s) = false → ((Q264 i3 a_s) == false) = true)] hn mix (no_hand hΓ) (by kernel_rfl) ⟨(fun hg => hg), (fun hg => hg), (fun hg => (hc7 hg)), (fun hg => hg), gF, (fun hg => hg), (fun hg => hg), (fun hg => (hc8 hg)), (fun hg => hg), gF, (fun hg => hg), (fun hg => hg), (fun hg => (hc9 hg)), (fun hg => hg), gF, (fun hg => hg), (fun hg => hg), (fun hg => (hc10 hg)), (fun hg => hg), gF, trivial⟩ ?_
        refine awp_cond (bif (Q264 i3 a_s) then true else (((a_s.getD (i3).toNat 0) : Int) == (41 : Int))) (by kernel_rfl) (fun hb => ?_) (fun hb => ?_)
        · replace h := cond_t hb h
          clear hb
          refine awp_seq ?_
          obtain ⟨x13, hx13, h⟩ := bind_some h
          refine awp_join (fun (l11 : List (List Int)) (e : Exit) (st : St) => e = .normal ∧ Le Γ st (⟨[(0, (.str a_s)), (3, (AV.list 1 eS ([] : List Int) l11 (.own 5003))), (5, (.int .i64 i3))], [(5003, .tok 1 9 l11.length)]⟩ : St)) hx13 ?_ ?_
          · clear h hx13
            intro y h
            refine rgs0 (⟨[(0, (.str a_s)), (3, (Q262 l1)), (4, (.str u2)), (5, (.int .i64 i3)), (41, (.bool (!((u2 : List Int) == ([] : List Int)))))], [(5003, .tok 1 9 l1.length)]⟩ : St) hn mix (no_hand hΓ) (by kernel_rfl) ?_
            refine awp_cond (!((u2 : List Int) == ([] : List Int))) (by kernel_rfl) (fun hb => ?_) (fun hb => ?_)
            · replace h := cond_t hb h
              clear hb
              obtain ⟨hc12, h⟩ := chk_some h
              refine rg [] [(44, (AV.list 1 eS ([] : List Int) (Q263 u2) .exact)), (45, (AV.list 1 eS ([] : List Int) (l1 ++ (Q263 u2)) (.own 5003)))] (⟨[(0, (.str a_s)), (3, (AV.list 1 eS ([] : List Int) (l1 ++ (Q263 u2)) (.own 5003))), (5, (.int .i64 i3))], [(5003, .tok 1 9 ((l1 ++ (Q263 u2)).length))]⟩ : St) [(AVle (.slice 1 1 (fun i => ([[(.str u2)]] : List (List AV)).getD i []) .exact) (AV.list 1 eS ([] : List Int) (Q263 u2) .exact)), (l1.length = l1.length), (l1.length + (Q263 u2).length ≤ room), (AVle (.slice 1 (l1.length + (Q263 u2).length) (appF l1.length (fun i => eS (l1.getD i ([] : List Int))) (fun i => eS ((Q263 u2).getD i ([] : List Int)))) (.own 5003)) (AV.list 1 eS ([] : List Int) (l1 ++ (Q263 u2)) (.own 5003))), (l1.length + (Q263 u2).length = (l1 ++ (Q263 u2)).length)] hn mix (no_hand hΓ) (by kernel_rfl) ⟨(av_lit rfl (fun i hi => map_get (e := eS) (d := ([] : List Int)) (Q263 u2) i hi)), rfl, hc12, av_app, (len_app _ _), trivial⟩ ?_
              obtain rfl := Option.some.inj h
              exact ⟨rfl, Le.refl _ _⟩
            · replace h := cond_f hb h
              clear hb
              refine awp_skip ?_
              obtain rfl := Option.some.inj h
              exact ⟨rfl, le_restrict_eq [0, 3, 5] [5003] (by kernel_rfl) (no_hand hΓ)⟩
          · clear hx13
            rintro e st' ⟨rfl, hl14⟩
            refine then_normal ?_
            refine awp_le hl14 ?_
            refine rgs0 (⟨[(0, (.str a_s)), (3, (AV.list 1 eS ([] : List Int) x13 (.own 5003))), (4, (.str ([] : List Int))), (5, (.int .i64 i3))], [(5003, .tok 1 9 x13.length)]⟩ : St) hn mix (no_hand hΓ) (by kernel_rfl) ?_
            obtain ⟨hc15, h⟩ := chk_some h
            obtain ⟨hc16, h⟩ := chk_some h
            refine rgs [] [] (⟨[(0, (.str a_s)), (3, (AV.list 1 eS ([] : List Int) x13 (.own 5003))), (4, (.str ([] : List Int))), (5, (.int .i64 i3)), (61, (.bool (Q266 i3 a_s)))], [(5003, .tok 1 9 x13.length)]⟩ : St) [((Q257 i3 a_s) = true → (Q257 i3 a_s) = true), ((Q257 i3 a_s) = true → (Q257 i3 a_s) = true), ((Q257 i3 a_s) = true → (InB i3 a_s.length)), ((Q257 i3 a_s) = true → (Q257 i3 a_s) = true), ((Q257 i3 a_s) = true → (Q257 i3 a_s) = true), ((Q265 i3 a_s) = true → (Q265 i3 a_s) = true), ((Q265 i3 a_s) = true → (Q265 i3 a_s) = true), ((Q265 i3 a_s) = true → (InB i3 a_s.length)), ((Q265 i3 a_s) = true → (Q265 i3 a_s) = true), ((Q257 i3 a_s) = true → (Q257 i3 a_s) = true), ((Q257 i3 a_s) = true → ((Q258 a_s i3) = false → (Q265 i3 a_s) = true)), ((decide ((i3 : Int) < (a_s.length : Int))) = true → (Q257 i3 a_s) = true)] hn mix (no_hand hΓ) (by kernel_rfl) ⟨(fun hg => hg), (fun hg => hg), (fun hg => (hc15 hg)), (fun hg => hg), (fun hg => hg), (fun hg => hg), (fun hg => hg), (fun hg => (hc16 hg)), (fun hg => hg), (fun hg => hg), (fun hg => (aF hg)), gT, trivial⟩ ?_
            refine awp_cond (Q266 i3 a_s) (by kernel_rfl) (fun hb => ?_) (fun hb => ?_)
            · replace h := cond_t hb h
              clear hb
              obtain ⟨hc17, h⟩ := chk_some h
              obtain ⟨hc18, h⟩ := chk_some h
              refine rg [] [(68, (AV.list 1 eS ([] : List Int) (Q256 a_s i3) .exact)), (69, (AV.list 1 eS ([] : List Int) (x13 ++ (Q256 a_s i3)) (.own 5003)))] (⟨[(0, (.str a_s)), (3, (AV.list 1 eS ([] : List Int) (x13 ++ (Q256 a_s i3)) (.own 5003))), (4, (.str ([] : List Int))), (5, (.int .i64 i3))], [(5003, .tok 1 9 ((x13 ++ (Q256 a_s i3)).length))]⟩ : St) [(0 ≤ i3 ∧ i3 ≤ (w64 (i3 + (1 : Int))) ∧ (w64 (i3 + (1 : Int))) ≤ (a_s.length : Int)), (AVle (.slice 1 1 (fun i => ([[(.str (Q267 a_s i3))]] : List (List AV)).getD i []) .exact) (AV.list 1 eS ([] : List Int) (Q256 a_s i3) .exact)), (x13.length = x13.length), (x13.length + (Q256 a_s i3).length ≤ room), (AVle (.slice 1 (x13.length + (Q256 a_s i3).length) (appF x13.length (fun i => eS (x13.getD i ([] : List Int))) (fun i => eS ((Q256 a_s i3).getD i ([] : List Int)))) (.own 5003)) (AV.list 1 eS ([] : List Int) (x13 ++ (Q256 a_s i3)) (.own 5003))), (x13.length + (Q256 a_s i3).length = (x13 ++ (Q256 a_s i3)).length)] hn mix (no_hand hΓ) (by kernel_rfl) ⟨hc17, (av_lit rfl (fun i hi => map_get (e := eS) (d := ([] : List Int)) (Q256 a_s i3) i hi)), rfl, hc18, av_app, (len_app _ _), trivial⟩ ?_
              refine block_normal ?_
              obtain rfl := Option.some.inj h
              exact ⟨rfl, Le.refl _ _⟩
            · replace h := cond_f hb h
              clear hb
              refine awp_skip ?_
              refine block_normal ?_
              obtain rfl := Option.some.inj h
              exact ⟨rfl, le_restrict_eq [0, 3, 4, 5] [5003] (by kernel_rfl) (no_hand hΓ)⟩
        · replace h := cond_f hb h
          clear hb
          obtain ⟨hc19, h⟩ := chk_some h
          obtain ⟨hc20, h⟩ := chk_some h
          refine rg [] [] (⟨[(0, (.str a_s)), (3, (Q262 l1)), (4, (.str (u2 ++ (Q267 a_s i3)))), (5, (.int .i64 i3))], [(5003, .tok 1 9 l1.length)]⟩ : St) [(0 ≤ i3 ∧ i3 ≤ (w64 (i3 + (1 : Int))) ∧ (w64 (i3 + (1 : Int))) ≤ (a_s.length : Int)), ((u2.length : Int) + (Q267 a_s i3).length ≤ 9223372036854775807)] hn mix (no_hand hΓ) (by kernel_rfl) ⟨hc19, hc20, trivial⟩ ?_
          refine block_normal ?_
          obtain rfl := Option.some.inj h
          exact ⟨rfl, Le.refl _ _⟩
      · clear hx21
        rcases x21 with ⟨l5, u6⟩
        rintro e st' ⟨rfl, hl22⟩
        refine then_normal ?_
        refine awp_le hl22 ?_
        refine rg0 (⟨[(0, (.str a_s)), (3, (AV.list 1 eS ([] : List Int) l5 (.own 5003))), (4, (.str u6)), (5, (.int .i64 (w64 (i3 + (1 : Int)))))], [(5003, .tok 1 9 l5.length)]⟩ : St) hn mix (no_hand hΓ) (by kernel_rfl) ?_
        obtain rfl := Option.some.inj h
        exact ⟨rfl, Le.refl _ _⟩
    · replace h := cond_f hb h
      clear hb
      refine awp_exit ?_
      refine then_exit ?_
      obtain rfl := Option.some.inj h
      exact ⟨(by intro hh; cases hh), rfl, le_restrict_eq [3] [5003] (by kernel_rfl) (no_hand hΓ)⟩
  · clear hx23
    rintro e st' ⟨rfl, hl24⟩
    refine block_here ?_
    refine then_normal ?_
    refine awp_le hl24 ?_
    refine rgs0 (⟨[(2, (AV.list 1 eS ([] : List Int) x23 (.own 5003)))], [(5003, .tok 1 9 x23.length)]⟩ : St) hn mix (no_hand hΓ) (by kernel_rfl) ?_
    refine awp_ret ?_
    obtain rfl := Option.some.inj h
    exact ⟨.inl rfl, [(5003, 20000)], by kernel_rfl⟩

noncomputable def Q268 (a_w0 : TReader) : List (Nat × Own) := [(30000, .row 76 [(AV.list 1 eS ([] : List Int) a_w0.W .none), (.int .i64 a_w0.At), (.bool a_w0.Bad)])]
noncomputable def m_lockstepref05_Reader_Next (a_w0 : TReader) : Option (List Int × TReader) :=
  (bif (decide (((a_w0.W.length : Int) : Int) ≤ a_w0.At)) then (some (([] : List Int), a_w0)) else (chk (InB a_w0.At a_w0.W.length) (some ((a_w0.W.getD (a_w0.At).toNat ([] : List Int)), a_w0))))
theorem ok_lockstepref05_Reader_Next (a_w0 : TReader) (r : (List Int × TReader)) (h : m_lockstepref05_Reader_Next a_w0 = some r) : Spec Tryd.prog 38 [(.ptr 30000 0)] [(30000, .row 76 [(AV.list 1 eS ([] : List Int) a_w0.W .none), (.int .i64 a_w0.At), (.bool a_w0.Bad)])] (.str r.1) [(30000, .row 76 [(AV.list 1 eS ([] : List Int) r.2.W .none), (.int .i64 r.2.At), (.bool r.2.Bad)])] := by
  refine spec_of_awp (fn := Tryd.f38) Tryd.func38 rfl rfl (by kernel_rfl) (fun Γ hn hΓ => ?_)
  have hn : Γ.n = 23 := hn
  unfold m_lockstepref05_Reader_Next at h
  refine rgs0 (⟨[(0, (.ptr 30000 0))], (Q268 a_w0)⟩ : St) hn mix (hand_in hΓ rfl) (by kernel_rfl) ?_
  refine awp_seq ?_
  refine rgs0 (⟨[(0, (.ptr 30000 0)), (12, (.bool (decide (((a_w0.W.length : Int) : Int) ≤ a_w0.At))))], (Q268 a_w0)⟩ : St) hn mix (hand_in hΓ rfl) (by kernel_rfl) ?_
  refine awp_cond (decide (((a_w0.W.length : Int) : Int) ≤ a_w0.At)) (by kernel_rfl) (fun hb => ?_) (fun hb => ?_)
  · replace h := cond_t hb h
    clear hb
    refine rgs0 (⟨[(2, (.str ([] : List Int)))], (Q268 a_w0)⟩ : St) hn mix (hand_in hΓ rfl) (by kernel_rfl) ?_
    refine awp_ret ?_
    refine then_ret ?_
    obtain rfl := Option.some.inj h
    exact ⟨.inl rfl, [(30000, 30000)], by kernel_rfl⟩
  · replace h := cond_f hb h
    clear hb
    refine awp_skip ?_
    refine then_normal ?_
    obtain ⟨hc1, h⟩ := chk_some h
    refine rgs [] [] (⟨[(2, (.str (a_w0.W.getD (a_w0.At).toNat ([] : List Int))))], (Q268 a_w0)⟩ : St) [(InB a_w0.At a_w0.W.length)] hn mix (hand_in hΓ rfl) (by kernel_rfl) ⟨hc1, trivial⟩ ?_
    refine awp_ret ?_
    obtain rfl := Option.some.inj h
    exact ⟨.inl rfl, [(30000, 30000)], by kernel_rfl⟩

noncomputable def m_lockstepref05_Reader_Num_L1 (x1 : (List Int × TReader)) : (Int × Int) → Option (LR (Int × Int) (Int ⊕ (Int × TReader))) :=
  fun ((i3, i4) : (Int × Int)) => (bif (decide ((i4 : Int) < (x1.1.length : Int))) then (chk (InB i4 x1.1.length) (chk (InB i4 x1.1.length) (chk (((decide (((x1.1.getD (i4).toNat 0) : Int) < (48 : Int))) == false) = true → (InB i4 x1.1.length)) (bif (bif (bif (decide (((x1.1.getD (i4).toNat 0) : Int) < (48 : Int))) then true else (decide (((57 : Int) : Int) < (x1.1.getD (i4).toNat 0)))) then true else (decide (((wu64 (Int.tdiv (wu64 ((18446744073709551615 : Int) - (wu64 ((wu64 (x1.1.getD (i4).toNat 0)) - (48 : Int))))) (10 : Int))) : Int) < i3))) then (some (.done (.inr ((0 : Int), (⟨x1.2.W, x1.2.At, true⟩ : TReader))))) else (some (.next ((wu64 ((wu64 (i3 * (10 : Int))) + (wu64 ((wu64 (x1.1.getD (i4).toNat 0)) - (48 : Int))))), (w64 (i4 + (1 : Int)))))))))) else (some (.done (.inl i3))))
noncomputable def Q269 (x1 : (List Int × TReader)) := (bif ((x1.1 : List Int) == ([] : List Int)) then true else (decide (((20 : Int) : Int) < (x1.1.length : Int))))
noncomputable def Q274 (x1 : (List Int × TReader)) := (decide (((1 : Int) : Int) < (x1.1.length : Int)))
noncomputable def Q278 (x1 : (List Int × TReader)) := (((Q269 x1) == false) && ((Q274 x1) == true))
noncomputable def Q277 (x1 : (List Int × TReader)) := (((x1.1 : List Int) == ([] : List Int)) == false)
noncomputable def Q275 (x1 : (List Int × TReader)) (i4 : Int) := (wu64 ((wu64 (x1.1.getD (i4).toNat 0)) - (48 : Int)))
noncomputable def Q273 (x1 : (List Int × TReader)) (i4 : Int) := ((decide (((x1.1.getD (i4).toNat 0) : Int) < (48 : Int))) == false)
noncomputable def Q272 (x1 : (List Int × TReader)) : List (Nat × Own) := [(30000, .row 76 [(AV.list 1 eS ([] : List Int) x1.2.W .none), (.int .i64 x1.2.At), (.bool true)])]
noncomputable def Q271 (x1 : (List Int × TReader)) : List (Nat × Own) := [(30000, .row 76 [(AV.list 1 eS ([] : List Int) x1.2.W .none), (.int .i64 x1.2.At), (.bool x1.2.Bad)])]
noncomputable def Q276 (a_w0 : TReader) : List (Nat × Own) := [(30000, .row 76 [(AV.list 1 eS ([] : List Int) a_w0.W .none), (.int .i64 a_w0.At), (.bool a_w0.Bad)])]
noncomputable def Q279 (x1 : (List Int × TReader)) := (bif (Q269 x1) then true else (bif (Q274 x1) then (((x1.1.getD ((0 : Int)).toNat 0) : Int) == (48 : Int)) else false))
noncomputable def Q270 (x1 : (List Int × TReader)) (i4 : Int) := (bif (decide (((x1.1.getD (i4).toNat 0) : Int) < (48 : Int))) then true else (decide (((57 : Int) : Int) < (x1.1.getD (i4).toNat 0))))
noncomputable def m_lockstepref05_Reader_Num (a_p1 : Int) (a_w0 : TReader) : Option (Int × TReader) :=
  ((m_lockstepref05_Reader_Next a_w0).bind fun x1 => (chk ((((bif ((x1.1 : List Int) == ([] : List Int)) then true else (decide (((20 : Int) : Int) < (x1.1.length : Int)))) == false) && ((decide (((1 : Int) : Int) < (x1.1.length : Int))) == true)) = true → (InB (0 : Int) x1.1.length)) (bif (bif (bif ((x1.1 : List Int) == ([] : List Int)) then true else (decide (((20 : Int) : Int) < (x1.1.length : Int)))) then true else (bif (decide (((1 : Int) : Int) < (x1.1.length : Int))) then (((x1.1.getD ((0 : Int)).toNat 0) : Int) == (48 : Int)) else false)) then (some ((0 : Int), (⟨x1.2.W, x1.2.At, true⟩ : TReader))) else ((loopO (S := (Int × Int)) (X := (Int ⊕ (Int × TReader))) (m_lockstepref05_Reader_Num_L1 x1) ((0 : Int), (0 : Int))).bind (fun x9 => (match x9 with | (.inl i5) => (bif (decide ((a_p1 : Int) < i5)) then (some ((0 : Int), (⟨x1.2.W, x1.2.At, true⟩ : TReader))) else (some (i5, (⟨x1.2.W, (w64 (x1.2.At + (1 : Int))), x1.2.Bad⟩ : TReader)))) | (.inr r11) => (some r11)))))))
theorem ok_lockstepref05_Reader_Num (a_p1 : Int) (a_w0 : TReader) (r : (Int × TReader)) (h : m_lockstepref05_Reader_Num a_p1 a_w0 = some r) : Spec Tryd.prog 57 [(.ptr 30000 0), (.int .u64 a_p1)] [(30000, .row 76 [(AV.list 1 eS ([] : List Int) a_w0.W .none), (.int .i64 a_w0.At), (.bool a_w0.Bad)])] (.int .u64 r.1) [(30000, .row 76 [(AV.list 1 eS ([] : List Int) r.2.W .none), (.int .i64 r.2.At), (.bool r.2.Bad)])] := by
  refine spec_of_awp (fn := Tryd.f57) Tryd.func57 rfl rfl (by kernel_rfl) (fun Γ hn hΓ => ?_)
  have hn : Γ.n = 80 := hn
  unfold m_lockstepref05_Reader_Num at h
  refine rgs0 (⟨[(0, (.ptr 30000 0)), (1, (.int .u64 a_p1))], (Q276 a_w0)⟩ : St) hn mix (hand_in hΓ rfl) (by kernel_rfl) ?_
  obtain ⟨x1, hx1, h⟩ := bind_some h
  refine rgs [⟨[(30000, 30000)], [], (.str x1.1), (Q271 x1)⟩] [] (⟨[(0, (.ptr 30000 0)), (1, (.int .u64 a_p1)), (5, (.str x1.1))], (Q271 x1)⟩ : St) [(Spec Tryd.prog 38 [(.ptr 30000 0)] (Q276 a_w0) (.str x1.1) (Q271 x1))] hn mix (hand_in hΓ rfl) (by kernel_rfl) ⟨(ok_lockstepref05_Reader_Next a_w0 x1 hx1), trivial⟩ ?_
  refine awp_seq ?_
  obtain ⟨hc2, h⟩ := chk_some h
  refine rgs [] [] (⟨[(0, (.ptr 30000 0)), (1, (.int .u64 a_p1)), (5, (.str x1.1)), (27, (.bool (Q279 x1)))], (Q271 x1)⟩ : St) [((Q277 x1) = true → (Q277 x1) = true), ((Q277 x1) = true → (Q277 x1) = true), (((x1.1 : List Int) == ([] : List Int)) = false → (Q277 x1) = true), (((Q269 x1) == false) = true → ((Q269 x1) == false) = true), (((Q269 x1) == false) = true → ((Q269 x1) == false) = true), (((Q269 x1) == false) = true → ((Q269 x1) == false) = true), ((Q278 x1) = true → (Q278 x1) = true), ((Q278 x1) = true → (InB (0 : Int) x1.1.length)), ((Q278 x1) = true → (Q278 x1) = true), (((Q269 x1) == false) = true → ((Q269 x1) == false) = true), (((Q269 x1) == false) = true → ((Q274 x1) = true → (Q278 x1) = true)), ((Q269 x1) = false → ((Q269 x1) == false) = true)] hn mix (hand_in hΓ rfl) (by kernel_rfl) ⟨(fun hg => hg), (fun hg => hg), gF, (fun hg => hg), (fun hg => hg), (fun hg => hg), (fun hg => hg), (fun hg => (hc2 hg)), (fun hg => hg), (fun hg => hg), (fun hg => (aT hg)), gF, trivial⟩ ?_
  refine awp_cond (Q279 x1) (by kernel_rfl) (fun hb => ?_) (fun hb => ?_)
  · replace h := cond_t hb h
    clear hb
    refine rgs0 (⟨[], (Q272 x1)⟩ : St) hn mix (hand_in hΓ rfl) (by kernel_rfl) ?_
    refine rgs0 (⟨[(4, (.int .u64 (0 : Int)))], (Q272 x1)⟩ : St) hn mix (hand_in hΓ rfl) (by kernel_rfl) ?_
    refine awp_ret ?_
    refine then_ret ?_
    obtain rfl := Option.some.inj h
    exact ⟨.inl rfl, [(30000, 30000)], by kernel_rfl⟩
  · replace h := cond_f hb h
    clear hb
    refine awp_skip ?_
    refine then_normal ?_
    refine rgs0 (⟨[(0, (.ptr 30000 0)), (1, (.int .u64 a_p1)), (5, (.str x1.1)), (6, (.int .u64 (0 : Int)))], (Q271 x1)⟩ : St) hn mix (hand_in hΓ rfl) (by kernel_rfl) ?_
    refine awp_seq ?_
    refine rgs0 (⟨[(0, (.ptr 30000 0)), (1, (.int .u64 a_p1)), (5, (.str x1.1)), (6, (.int .u64 (0 : Int))), (7, (.int .i64 (0 : Int)))], (Q271 x1)⟩ : St) hn mix (hand_in hΓ rfl) (by kernel_rfl) ?_
    refine awp_block ?_
    refine awp_le (st' := (fun ((i3, i4) : (Int × Int)) => (⟨[(0, (.ptr 30000 0)), (1, (.int .u64 a_p1)), (5, (.str x1.1)), (6, (.int .u64 i3)), (7, (.int .i64 i4))], (Q271 x1)⟩ : St)) ((0 : Int), (0 : Int))) (Le.refl _ _) ?_
    obtain ⟨x9, hx9, h⟩ := bind_some h
    refine awp_loop (fun ((i3, i4) : (Int × Int)) => (⟨[(0, (.ptr 30000 0)), (1, (.int .u64 a_p1)), (5, (.str x1.1)), (6, (.int .u64 i3)), (7, (.int .i64 i4))], (Q271 x1)⟩ : St)) _ (fun (x_ : (Int ⊕ (Int × TReader))) (e : Exit) (st : St) => match x_ with | (.inl i5) => e = (.exit 0) ∧ Le Γ st (⟨[(0, (.ptr 30000 0)), (1, (.int .u64 a_p1)), (6, (.int .u64 i5))], (Q271 x1)⟩ : St) | (.inr r_) => e = .ret ∧ retK Tryd.prog Tryd.f57.results.toList (Q276 a_w0) (.int .u64 r_.1) [(30000, .row 76 [(AV.list 1 eS ([] : List Int) r_.2.W .none), (.int .i64 r_.2.At), (.bool r_.2.Bad)])] e st) ?_ hx9 ?_
    · rintro ⟨i3, i4⟩ y h
      unfold m_lockstepref05_Reader_Num_L1 at h
      refine awp_seq ?_
      refine rgs0 (⟨[(0, (.ptr 30000 0)), (1, (.int .u64 a_p1)), (5, (.str x1.1)), (6, (.int .u64 i3)), (7, (.int .i64 i4)), (34, (.bool (decide ((i4 : Int) < (x1.1.length : Int)))))], (Q271 x1)⟩ : St) hn mix (hand_in hΓ rfl) (by kernel_rfl) ?_
      refine awp_cond (decide ((i4 : Int) < (x1.1.length : Int))) (by kernel_rfl) (fun hb => ?_) (fun hb => ?_)
      · replace h := cond_t hb h
        clear hb
        refine awp_skip ?_
        refine then_normal ?_
        refine awp_seq ?_
        refine awp_block ?_
        obtain ⟨hc6, h⟩ := chk_some h
        refine rgs [] [] (⟨[(0, (.ptr 30000 0)), (1, (.int .u64 a_p1)), (5, (.str x1.1)), (6, (.int .u64 i3)), (7, (.int .i64 i4)), (8, (.int .u64 (Q275 x1 i4)))], (Q271 x1)⟩ : St) [(InB i4 x1.1.length)] hn mix (hand_in hΓ rfl) (by kernel_rfl) ⟨hc6, trivial⟩ ?_
        refine awp_seq ?_
        obtain ⟨hc7, h⟩ := chk_some h
        obtain ⟨hc8, h⟩ := chk_some h
        refine rgs [] [] (⟨[(0, (.ptr 30000 0)), (1, (.int .u64 a_p1)), (5, (.str x1.1)), (6, (.int .u64 i3)), (7, (.int .i64 i4)), (8, (.int .u64 (Q275 x1 i4))), (58, (.bool (bif (Q270 x1 i4) then true else (decide (((wu64 (Int.tdiv (wu64 ((18446744073709551615 : Int) - (Q275 x1 i4))) (10 : Int))) : Int) < i3)))))], (Q271 x1)⟩ : St) [(InB i4 x1.1.length), ((Q273 x1 i4) = true → (Q273 x1 i4) = true), ((Q273 x1 i4) = true → (Q273 x1 i4) = true), ((Q273 x1 i4) = true → (InB i4 x1.1.length)), ((Q273 x1 i4) = true → (Q273 x1 i4) = true), ((decide (((x1.1.getD (i4).toNat 0) : Int) < (48 : Int))) = false → (Q273 x1 i4) = true), (((Q270 x1 i4) == false) = true → ((Q270 x1 i4) == false) = true), (((Q270 x1 i4) == false) = true → ((Q270 x1 i4) == false) = true), (((Q270 x1 i4) == false) = true → ((10 : Int) ≠ 0)), (((Q270 x1 i4) == false) = true → ((Q270 x1 i4) == false) = true), (((Q270 x1 i4) == false) = true → ((Q270 x1 i4) == false) = true), ((Q270 x1 i4) = false → ((Q270 x1 i4) == false) = true)] hn mix (hand_in hΓ rfl) (by kernel_rfl) ⟨hc7, (fun hg => hg), (fun hg => hg), (fun hg => (hc8 hg)), (fun hg => hg), gF, (fun hg => hg), (fun hg => hg), (fun hg => (by decide)), (fun hg => hg), (fun hg => hg), gF, trivial⟩ ?_
        refine awp_cond (bif (Q270 x1 i4) then true else (decide (((wu64 (Int.tdiv (wu64 ((18446744073709551615 : Int) - (Q275 x1 i4))) (10 : Int))) : Int) < i3))) (by kernel_rfl) (fun hb => ?_) (fun hb => ?_)
        · replace h := cond_t hb h
          clear hb
          refine rgs0 (⟨[], (Q272 x1)⟩ : St) hn mix (hand_in hΓ rfl) (by kernel_rfl) ?_
          refine rgs0 (⟨[(4, (.int .u64 (0 : Int)))], (Q272 x1)⟩ : St) hn mix (hand_in hΓ rfl) (by kernel_rfl) ?_
          refine awp_ret ?_
          refine then_ret ?_
          refine block_ret ?_
          refine then_ret ?_
          obtain rfl := Option.some.inj h
          exact ⟨(by intro hh; cases hh), rfl, ⟨.inl rfl, [(30000, 30000)], by kernel_rfl⟩⟩
        · replace h := cond_f hb h
          clear hb
          refine awp_skip ?_
          refine then_normal ?_
          refine rg0 (⟨[(0, (.ptr 30000 0)), (1, (.int .u64 a_p1)), (5, (.str x1.1)), (6, (.int .u64 (wu64 ((wu64 (i3 * (10 : Int))) + (Q275 x1 i4))))), (7, (.int .i64 i4))], (Q271 x1)⟩ : St) hn mix (hand_in hΓ rfl) (by kernel_rfl) ?_
          refine block_normal ?_
          refine then_normal ?_
          refine rg0 (⟨[(0, (.ptr 30000 0)), (1, (.int .u64 a_p1)), (5, (.str x1.1)), (6, (.int .u64 (wu64 ((wu64 (i3 * (10 : Int))) + (Q275 x1 i4))))), (7, (.int .i64 (w64 (i4 + (1 : Int)))))], (Q271 x1)⟩ : St) hn mix (hand_in hΓ rfl) (by kernel_rfl) ?_
          obtain rfl := Option.some.inj h
          exact ⟨rfl, Le.refl _ _⟩
      · replace h := cond_f hb h
        clear hb
        refine awp_exit ?_
        refine then_exit ?_
        obtain rfl := Option.some.inj h
        exact ⟨(by intro hh; cases hh), rfl, le_restrict_eq [0, 1, 6] [30000] (by kernel_rfl) (hand_in hΓ rfl)⟩
    · clear hx9
      rcases x9 with i5 | r11
      · rintro e st' ⟨rfl, hl10⟩
        refine block_here ?_
        refine then_normal ?_
        refine awp_le hl10 ?_
        refine awp_seq ?_
        refine rgs0 (⟨[(0, (.ptr 30000 0)), (6, (.int .u64 i5)), (68, (.bool (decide ((a_p1 : Int) < i5))))], (Q271 x1)⟩ : St) hn mix (hand_in hΓ rfl) (by kernel_rfl) ?_
        refine awp_cond (decide ((a_p1 : Int) < i5)) (by kernel_rfl) (fun hb => ?_) (fun hb => ?_)
        · replace h := cond_t hb h
          clear hb
          refine rgs0 (⟨[], (Q272 x1)⟩ : St) hn mix (hand_in hΓ rfl) (by kernel_rfl) ?_
          refine rgs0 (⟨[(4, (.int .u64 (0 : Int)))], (Q272 x1)⟩ : St) hn mix (hand_in hΓ rfl) (by kernel_rfl) ?_
          refine awp_ret ?_
          refine then_ret ?_
          obtain rfl := Option.some.inj h
          exact ⟨.inl rfl, [(30000, 30000)], by kernel_rfl⟩
        · replace h := cond_f hb h
          clear hb
          refine awp_skip ?_
          refine then_normal ?_
          refine rgs0 (⟨[(6, (.int .u64 i5))], [(30000, .row 76 [(AV.list 1 eS ([] : List Int) x1.2.W .none), (.int .i64 (w64 (x1.2.At + (1 : Int)))), (.bool x1.2.Bad)])]⟩ : St) hn mix (hand_in hΓ rfl) (by kernel_rfl) ?_
          refine rgs0 (⟨[(4, (.int .u64 i5))], [(30000, .row 76 [(AV.list 1 eS ([] : List Int) x1.2.W .none), (.int .i64 (w64 (x1.2.At + (1 : Int)))), (.bool x1.2.Bad)])]⟩ : St) hn mix (hand_in hΓ rfl) (by kernel_rfl) ?_
          refine awp_ret ?_
          obtain rfl := Option.some.inj h
          exact ⟨.inl rfl, [(30000, 30000)], by kernel_rfl⟩
      · rintro e st' ⟨rfl, hk⟩
        refine block_ret ?_
        refine then_ret ?_
        obtain rfl := Option.some.inj h
        exact hk

noncomputable def Q280 (x1 : (Int × TReader)) : List (Nat × Own) := [(30000, .row 76 [(AV.list 1 eS ([] : List Int) x1.2.W .none), (.int .i64 x1.2.At), (.bool x1.2.Bad)])]
noncomputable def m_lockstepref05_Reader_Int (a_w0 : TReader) : Option (Int × TReader) :=
  ((m_lockstepref05_Reader_Num (2147483647 : Int) a_w0).bind fun x1 => (some ((w64 x1.1), x1.2)))
theorem ok_lockstepref05_Reader_Int (a_w0 : TReader) (r : (Int × TReader)) (h : m_lockstepref05_Reader_Int a_w0 = some r) : Spec Tryd.prog 37 [(.ptr 30000 0)] [(30000, .row 76 [(AV.list 1 eS ([] : List Int) a_w0.W .none), (.int .i64 a_w0.At), (.bool a_w0.Bad)])] (.int .i64 r.1) [(30000, .row 76 [(AV.list 1 eS ([] : List Int) r.2.W .none), (.int .i64 r.2.At), (.bool r.2.Bad)])] := by
  refine spec_of_awp (fn := Tryd.f37) Tryd.func37 rfl rfl (by kernel_rfl) (fun Γ hn hΓ => ?_)
  have hn : Γ.n = 6 := hn
  unfold m_lockstepref05_Reader_Int at h
  refine rgs0 (⟨[(0, (.ptr 30000 0))], [(30000, .row 76 [(AV.list 1 eS ([] : List Int) a_w0.W .none), (.int .i64 a_w0.At), (.bool a_w0.Bad)])]⟩ : St) hn mix (hand_in hΓ rfl) (by kernel_rfl) ?_
  obtain ⟨x1, hx1, h⟩ := bind_some h
  refine rgs [⟨[(30000, 30000)], [], (.int .u64 x1.1), (Q280 x1)⟩] [] (⟨[(2, (.int .i64 (w64 x1.1)))], (Q280 x1)⟩ : St) [(Spec Tryd.prog 57 [(.ptr 30000 0), (.int .u64 (2147483647 : Int))] [(30000, .row 76 [(AV.list 1 eS ([] : List Int) a_w0.W .none), (.int .i64 a_w0.At), (.bool a_w0.Bad)])] (.int .u64 x1.1) (Q280 x1))] hn mix (hand_in hΓ rfl) (by kernel_rfl) ⟨(ok_lockstepref05_Reader_Num (2147483647 : Int) a_w0 x1 hx1), trivial⟩ ?_
  refine awp_ret ?_
  obtain rfl := Option.some.inj h
  exact ⟨.inl rfl, [(30000, 30000)], by kernel_rfl⟩

noncomputable def m_lockstepref05_Reader_List_L1  : (List (Int) × List (List Int) × Int × Bool) → Option (LR (List (Int) × List (List Int) × Int × Bool) (List (Int) × List (List Int) × Int × Bool)) :=
  fun ((l2, l3, i4, b5) : (List (Int) × List (List Int) × Int × Bool)) => ((bif ((!b5) == true) then m_lockstepref05_Reader_Next (⟨l3, i4, b5⟩ : TReader) else some (([] : List Int), (default : TReader))).bind fun x10 => (bif (bif (!b5) then (!((x10.1 : List Int) == ([41] : List Int))) else false) then ((m_lockstepref05_Reader_Int (⟨(bif ((!b5) == true) then x10.2.W else l3), (bif ((!b5) == true) then x10.2.At else i4), (bif ((!b5) == true) then x10.2.Bad else b5)⟩ : TReader)).bind fun x11 => (chk (l2.length + ([x11.1] : List (Int)).length ≤ room) (some (.next ((l2 ++ ([x11.1] : List (Int))), x11.2.W, x11.2.At, x11.2.Bad))))) else (some (.done (l2, (bif ((!b5) == true) then x10.2.W else l3), (bif ((!b5) == true) then x10.2.At else i4), (bif ((!b5) == true) then x10.2.Bad else b5))))))
noncomputable def Q287 (x11 : (Int × TReader)) := ([x11.1] : List (Int))
noncomputable def Q282 (x1 : (List Int × TReader)) : AV := (AV.list 1 eS ([] : List Int) x1.2.W .none)
noncomputable def Q281 : AV := (AV.list 1 eI64 (0 : Int) ([] : List Int) .exact)
noncomputable def Q286 (x11 : (Int × TReader)) : List AV := [(AV.list 1 eS ([] : List Int) x11.2.W .none), (.int .i64 x11.2.At), (.bool x11.2.Bad)]
noncomputable def Q283 (a_w0 : TReader) : List (Nat × Own) := [(30000, .row 76 [(AV.list 1 eS ([] : List Int) a_w0.W .none), (.int .i64 a_w0.At), (.bool a_w0.Bad)])]
noncomputable def Q289 (x1 : (List Int × TReader)) := (⟨[(0, (.ptr 30000 0)), (3, Q281)], [(30000, .row 76 [(Q282 x1), (.int .i64 (w64 (x1.2.At + (1 : Int)))), (.bool x1.2.Bad)])]⟩ : St)
noncomputable def Q288 (x1 : (List Int × TReader)) := (⟨[(2, (AV.list 1 eI64 (0 : Int) ([] : List Int) (.own 6002)))], [(6002, .tok 1 3 (([] : List Int).length)), (30000, .row 76 [(Q282 x1), (.int .i64 x1.2.At), (.bool true)])]⟩ : St)
noncomputable def Q285 (b5 : Bool) (x10 : (List Int × TReader)) (l3 : List (List Int)) (i4 : Int) : List AV := [(AV.list 1 eS ([] : List Int) (bif ((!b5) == true) then x10.2.W else l3) .none), (.int .i64 (bif ((!b5) == true) then x10.2.At else i4)), (.bool (bif ((!b5) == true) then x10.2.Bad else b5))]
noncomputable def Q284 (l2 : List (Int)) (l3 : List (List Int)) (i4 : Int) (b5 : Bool) := (⟨[(0, (.ptr 30000 0)), (3, (AV.list 1 eI64 (0 : Int) l2 (.own 5003)))], [(5003, .tok 1 3 l2.length), (30000, .row 76 [(AV.list 1 eS ([] : List Int) l3 .none), (.int .i64 i4), (.bool b5)])]⟩ : St)
noncomputable def m_lockstepref05_Reader_List (a_w0 : TReader) : Option (List (Int) × TReader) :=
  ((m_lockstepref05_Reader_Next a_w0).bind fun x1 => (bif (!((x1.1 : List Int) == ([40] : List Int))) then (some (([] : List Int), (⟨x1.2.W, x1.2.At, true⟩ : TReader))) else ((loopO (S := (List (Int) × List (List Int) × Int × Bool)) (X := (List (Int) × List (List Int) × Int × Bool)) m_lockstepref05_Reader_List_L1 (([] : List Int), x1.2.W, (w64 (x1.2.At + (1 : Int))), x1.2.Bad)).bind (fun x13 => (match x13 with | (l6, l7, i8, b9) => (some (l6, (⟨l7, (w64 (i8 + (1 : Int))), b9⟩ : TReader))))))))
theorem ok_lockstepref05_Reader_List (a_w0 : TReader) (r : (List (Int) × TReader)) (h : m_lockstepref05_Reader_List a_w0 = some r) : Spec Tryd.prog 36 [(.ptr 30000 0)] [(30000, .row 76 [(AV.list 1 eS ([] : List Int) a_w0.W .none), (.int .i64 a_w0.At), (.bool a_w0.Bad)])] (AV.list 1 eI64 (0 : Int) r.1 (.own 20000)) [(30000, .row 76 [(AV.list 1 eS ([] : List Int) r.2.W .none), (.int .i64 r.2.At), (.bool r.2.Bad)]), (20000, .tok 1 3 r.1.length)] := by
  refine spec_of_awp (fn := Tryd.f36) Tryd.func36 rfl rfl (by kernel_rfl) (fun Γ hn hΓ => ?_)
  have hn : Γ.n = 40 := hn
  unfold m_lockstepref05_Reader_List at h
  refine rgs [] [(2, Q281)] (⟨[(0, (.ptr 30000 0))], (Q283 a_w0)⟩ : St) [(AVle (.slice 0 0 (fun _ => []) .exact) Q281)] hn mix (hand_in hΓ rfl) (by kernel_rfl) ⟨av_nil, trivial⟩ ?_
  refine rgs [] [(3, Q281)] (⟨[(0, (.ptr 30000 0)), (3, Q281)], (Q283 a_w0)⟩ : St) [(AVle (.slice 0 0 (fun _ => []) .exact) Q281)] hn mix (hand_in hΓ rfl) (by kernel_rfl) ⟨av_nil, trivial⟩ ?_
  refine awp_seq ?_
  obtain ⟨x1, hx1, h⟩ := bind_some h
  refine rgs [⟨[(30000, 30000)], [], (.str x1.1), [(30000, .row 76 [(Q282 x1), (.int .i64 x1.2.At), (.bool x1.2.Bad)])]⟩] [] (⟨[(0, (.ptr 30000 0)), (3, Q281), (6, (.bool (!((x1.1 : List Int) == ([40] : List Int)))))], [(30000, .row 76 [(Q282 x1), (.int .i64 x1.2.At), (.bool x1.2.Bad)])]⟩ : St) [(Spec Tryd.prog 38 [(.ptr 30000 0)] (Q283 a_w0) (.str x1.1) [(30000, .row 76 [(Q282 x1), (.int .i64 x1.2.At), (.bool x1.2.Bad)])])] hn mix (hand_in hΓ rfl) (by kernel_rfl) ⟨(ok_lockstepref05_Reader_Next a_w0 x1 hx1), trivial⟩ ?_
  refine awp_cond (!((x1.1 : List Int) == ([40] : List Int))) (by kernel_rfl) (fun hb => ?_) (fun hb => ?_)
  · replace h := cond_t hb h
    clear hb
    refine rgs0 (⟨[], [(30000, .row 76 [(Q282 x1), (.int .i64 x1.2.At), (.bool true)])]⟩ : St) hn mix (hand_in hΓ rfl) (by kernel_rfl) ?_
    refine rgs [] [(2, Q281)] (⟨[(2, Q281)], [(30000, .row 76 [(Q282 x1), (.int .i64 x1.2.At), (.bool true)])]⟩ : St) [(AVle (.slice 0 0 (fun _ => []) .exact) Q281)] hn mix (hand_in hΓ rfl) (by kernel_rfl) ⟨av_nil, trivial⟩ ?_
    refine awp_le (st' := (Q288 x1)) (Le.trans (le_restrict_eq (st' := (⟨[(2, Q281)], [(30000, .row 76 [(Q282 x1), (.int .i64 x1.2.At), (.bool true)])]⟩ : St)) [2] [30000] (by kernel_rfl) (hand_in hΓ rfl)) (Le.trans (le_tag (t := 2) (nm := 6002) (sz' := 1) (fun i => eI64 (([] : List Int).getD i (0 : Int))) 3 rfl rfl (.inl ⟨rfl, rfl⟩) (fun h_ => absurd h_ (by decide))) (le_restrict_eq (st' := (Q288 x1)) [2] [6002, 30000] (by kernel_rfl) (hand_in hΓ rfl)))) ?_
    refine awp_ret ?_
    refine then_ret ?_
    obtain rfl := Option.some.inj h
    exact ⟨.inl rfl, [(30000, 30000), (6002, 20000)], by kernel_rfl⟩
  · replace h := cond_f hb h
    clear hb
    refine awp_skip ?_
    refine then_normal ?_
    refine rgs0 (Q289 x1) hn mix (hand_in hΓ rfl) (by kernel_rfl) ?_
    refine awp_seq ?_
    refine awp_block ?_
    refine awp_le (st' := (fun ((l2, l3, i4, b5) : (List (Int) × List (List Int) × Int × Bool)) => (Q284 l2 l3 i4 b5)) (([] : List Int), x1.2.W, (w64 (x1.2.At + (1 : Int))), x1.2.Bad)) (Le.trans (le_restrict_eq (st' := (Q289 x1)) [0, 3] [30000] (by kernel_rfl) (hand_in hΓ rfl)) (Le.trans (le_tag (t := 3) (nm := 5003) (sz' := 1) (fun i => eI64 (([] : List Int).getD i (0 : Int))) 3 rfl rfl (.inl ⟨rfl, rfl⟩) (fun h_ => absurd h_ (by decide))) (le_restrict_eq (st' := (⟨[(0, (.ptr 30000 0)), (3, (AV.list 1 eI64 (0 : Int) ([] : List Int) (.own 5003)))], [(5003, .tok 1 3 (([] : List Int).length)), (30000, .row 76 [(Q282 x1), (.int .i64 (w64 (x1.2.At + (1 : Int)))), (.bool x1.2.Bad)])]⟩ : St)) [0, 3] [5003, 30000] (by kernel_rfl) (hand_in hΓ rfl)))) ?_
    obtain ⟨x13, hx13, h⟩ := bind_some h
    refine awp_loop (fun ((l2, l3, i4, b5) : (List (Int) × List (List Int) × Int × Bool)) => (Q284 l2 l3 i4 b5)) _ (fun ((l6, l7, i8, b9) : (List (Int) × List (List Int) × Int × Bool)) (e : Exit) (st : St) => e = (.exit 0) ∧ Le Γ st (⟨[(0, (.ptr 30000 0)), (3, (AV.list 1 eI64 (0 : Int) l6 (.own 5003)))], [(5003, .tok 1 3 l6.length), (30000, .row 76 [(AV.list 1 eS ([] : List Int) l7 .none), (.int .i64 i8), (.bool b9)])]⟩ : St)) ?_ hx13 ?_
    · rintro ⟨l2, l3, i4, b5⟩ y h
      unfold m_lockstepref05_Reader_List_L1 at h
      refine awp_seq ?_
      obtain ⟨x10, hx10, h⟩ := bind_some h
      refine rgs [⟨[(30000, 30000)], [], (.str x10.1), [(30000, .row 76 [(AV.list 1 eS ([] : List Int) x10.2.W .none), (.int .i64 x10.2.At), (.bool x10.2.Bad)])]⟩] [] (⟨[(0, (.ptr 30000 0)), (3, (AV.list 1 eI64 (0 : Int) l2 (.own 5003))), (26, (.bool (bif (!b5) then (!((x10.1 : List Int) == ([41] : List Int))) else false)))], [(5003, .tok 1 3 l2.length), (30000, .row 76 [(.slice 1 (bif ((!b5) == true) then x10.2.W.length else l3.length) (fun i => bif ((!b5) == true) then eS (x10.2.W.getD i ([] : List Int)) else eS (l3.getD i ([] : List Int))) .none), (.int .i64 (bif ((!b5) == true) then x10.2.At else i4)), (.bool (bif ((!b5) == true) then x10.2.Bad else b5))])]⟩ : St) [(((!b5) == true) = true → ((!b5) == true) = true), (((!b5) == true) = true → (Spec Tryd.prog 38 [(.ptr 30000 0)] [(30000, .row 76 [(AV.list 1 eS ([] : List Int) l3 .none), (.int .i64 i4), (.bool b5)])] (.str x10.1) [(30000, .row 76 [(AV.list 1 eS ([] : List Int) x10.2.W .none), (.int .i64 x10.2.At), (.bool x10.2.Bad)])])), (((!b5) == true) = true → ((!b5) == true) = true), ((!b5) = true → ((!b5) == true) = true)] hn mix (hand_in hΓ rfl) (by kernel_rfl) ⟨(fun hg => hg), (fun hg => (ok_lockstepref05_Reader_Next (⟨l3, i4, b5⟩ : TReader) x10 (cond_t hg hx10))), (fun hg => hg), gT, trivial⟩ ?_
      refine awp_le (le_of (st' := (⟨[(0, (.ptr 30000 0)), (3, (AV.list 1 eI64 (0 : Int) l2 (.own 5003))), (26, (.bool (bif (!b5) then (!((x10.1 : List Int) == ([41] : List Int))) else false)))], [(5003, .tok 1 3 l2.length), (30000, .row 76 (Q285 b5 x10 l3 i4))]⟩ : St)) (TmpsLe.refl _) (.same (.row (.cons av_bif_list (.cons (AVle.refl _) (.cons (AVle.refl _) .nil))) .nil))) ?_
      refine awp_cond (bif (!b5) then (!((x10.1 : List Int) == ([41] : List Int))) else false) (by kernel_rfl) (fun hb => ?_) (fun hb => ?_)
      · replace h := cond_t hb h
        clear hb
        refine awp_skip ?_
        refine then_normal ?_
        refine awp_block ?_
        obtain ⟨x11, hx11, h⟩ := bind_some h
        obtain ⟨hc12, h⟩ := chk_some h
        refine rg [⟨[(30000, 30000)], [], (.int .i64 x11.1), [(30000, .row 76 (Q286 x11))]⟩] [(30, (AV.list 1 eI64 (0 : Int) (Q287 x11) .exact)), (31, (AV.list 1 eI64 (0 : Int) (l2 ++ (Q287 x11)) (.own 5003)))] (⟨[(0, (.ptr 30000 0)), (3, (AV.list 1 eI64 (0 : Int) (l2 ++ (Q287 x11)) (.own 5003)))], [(5003, .tok 1 3 ((l2 ++ (Q287 x11)).length)), (30000, .row 76 (Q286 x11))]⟩ : St) [(Spec Tryd.prog 37 [(.ptr 30000 0)] [(30000, .row 76 (Q285 b5 x10 l3 i4))] (.int .i64 x11.1) [(30000, .row 76 (Q286 x11))]), (AVle (.slice 1 1 (fun i => ([[(.int .i64 x11.1)]] : List (List AV)).getD i []) .exact) (AV.list 1 eI64 (0 : Int) (Q287 x11) .exact)), (l2.length = l2.length), (l2.length + (Q287 x11).length ≤ room), (AVle (.slice 1 (l2.length + (Q287 x11).length) (appF l2.length (fun i => eI64 (l2.getD i (0 : Int))) (fun i => eI64 ((Q287 x11).getD i (0 : Int)))) (.own 5003)) (AV.list 1 eI64 (0 : Int) (l2 ++ (Q287 x11)) (.own 5003))), (l2.length + (Q287 x11).length = (l2 ++ (Q287 x11)).length)] hn mix (hand_in hΓ rfl) (by kernel_rfl) ⟨(ok_lockstepref05_Reader_Int (⟨(bif ((!b5) == true) then x10.2.W else l3), (bif ((!b5) == true) then x10.2.At else i4), (bif ((!b5) == true) then x10.2.Bad else b5)⟩ : TReader) x11 hx11), (av_lit rfl (fun i hi => map_get (e := eI64) (d := (0 : Int)) (Q287 x11) i hi)), rfl, hc12, av_app, (len_app _ _), trivial⟩ ?_
        refine block_normal ?_
        obtain rfl := Option.some.inj h
        exact ⟨rfl, Le.refl _ _⟩
      · replace h := cond_f hb h
        clear hb
        refine awp_exit ?_
        refine then_exit ?_
        obtain rfl := Option.some.inj h
        exact ⟨(by intro hh; cases hh), rfl, le_restrict_eq [0, 3] [5003, 30000] (by kernel_rfl) (hand_in hΓ rfl)⟩
    · clear hx13
      rcases x13 with ⟨l6, l7, i8, b9⟩
      rintro e st' ⟨rfl, hl14⟩
      refine block_here ?_
      refine then_normal ?_
      refine awp_le hl14 ?_
      refine rgs0 (⟨[(3, (AV.list 1 eI64 (0 : Int) l6 (.own 5003)))], [(5003, .tok 1 3 l6.length), (30000, .row 76 [(AV.list 1 eS ([] : List Int) l7 .none), (.int .i64 (w64 (i8 + (1 : Int)))), (.bool b9)])]⟩ : St) hn mix (hand_in hΓ rfl) (by kernel_rfl) ?_
      refine rgs0 (⟨[(2, (AV.list 1 eI64 (0 : Int) l6 (.own 5003)))], [(5003, .tok 1 3 l6.length), (30000, .row 76 [(AV.list 1 eS ([] : List Int) l7 .none), (.int .i64 (w64 (i8 + (1 : Int)))), (.bool b9)])]⟩ : St) hn mix (hand_in hΓ rfl) (by kernel_rfl) ?_
      refine awp_ret ?_
      obtain rfl := Option.some.inj h
      exact ⟨.inl rfl, [(30000, 30000), (5003, 20000)], by kernel_rfl⟩

noncomputable def m_lockstepref05_find_L1 (a_l : List (List Int)) (a_s : List Int) : Int → Option (LR Int (Unit ⊕ Int)) :=
  fun (i1 : Int) => (bif (decide ((i1 : Int) < (a_l.length : Int))) then (chk (InB i1 a_l.length) (bif (((a_l.getD (i1).toNat ([] : List Int)) : List Int) == a_s) then (some (.done (.inr i1))) else (some (.next (w64 (i1 + (1 : Int))))))) else (some (.done (.inl ()))))
noncomputable def Q290 (a_l : List (List Int)) : AV := (AV.list 1 eS ([] : List Int) a_l .none)
noncomputable def m_lockstepref05_find (a_l : List (List Int)) (a_s : List Int) : Option Int :=
  ((loopO (S := Int) (X := (Unit ⊕ Int)) (m_lockstepref05_find_L1 a_l a_s) (0 : Int)).bind (fun x3 => (match x3 with | (.inl _) => (some (-1 : Int)) | (.inr r5) => (some r5))))
theorem ok_lockstepref05_find (a_l : List (List Int)) (a_s : List Int) (r : Int) (h : m_lockstepref05_find a_l a_s = some r) : Spec Tryd.prog 40 [(AV.list 1 eS ([] : List Int) a_l .none), (.str a_s)] [] (.int .i64 r) [] := by
  refine spec_of_awp (fn := Tryd.f40) Tryd.func40 rfl rfl (by kernel_rfl) (fun Γ hn hΓ => ?_)
  have hn : Γ.n = 19 := hn
  unfold m_lockstepref05_find at h
  refine rgs0 (⟨[(0, (Q290 a_l)), (1, (.str a_s))], []⟩ : St) hn mix (no_hand hΓ) (by kernel_rfl) ?_
  refine awp_seq ?_
  refine rgs0 (⟨[(0, (Q290 a_l)), (1, (.str a_s)), (5, (.int .i64 (0 : Int)))], []⟩ : St) hn mix (no_hand hΓ) (by kernel_rfl) ?_
  refine awp_block ?_
  refine awp_le (st' := (fun (i1 : Int) => (⟨[(0, (Q290 a_l)), (1, (.str a_s)), (5, (.int .i64 i1))], []⟩ : St)) (0 : Int)) (Le.refl _ _) ?_
  obtain ⟨x3, hx3, h⟩ := bind_some h
  refine awp_loop (fun (i1 : Int) => (⟨[(0, (Q290 a_l)), (1, (.str a_s)), (5, (.int .i64 i1))], []⟩ : St)) _ (fun (x_ : (Unit ⊕ Int)) (e : Exit) (st : St) => match x_ with | (.inl _) => e = (.exit 0) ∧ Le Γ st (⟨[], []⟩ : St) | (.inr r_) => e = .ret ∧ retK Tryd.prog Tryd.f40.results.toList [] (.int .i64 r_) [] e st) ?_ hx3 ?_
  · intro i1 y h
    unfold m_lockstepref05_find_L1 at h
    refine awp_seq ?_
    refine rgs0 (⟨[(0, (Q290 a_l)), (1, (.str a_s)), (5, (.int .i64 i1)), (9, (.bool (decide ((i1 : Int) < (a_l.length : Int)))))], []⟩ : St) hn mix (no_hand hΓ) (by kernel_rfl) ?_
    refine awp_cond (decide ((i1 : Int) < (a_l.length : Int))) (by kernel_rfl) (fun hb => ?_) (fun hb => ?_)
    · replace h := cond_t hb h
      clear hb
      refine awp_skip ?_
      refine then_normal ?_
      refine awp_seq ?_
      refine awp_block ?_
      obtain ⟨hc2, h⟩ := chk_some h
      refine rgs [] [] (⟨[(0, (Q290 a_l)), (1, (.str a_s)), (5, (.int .i64 i1)), (17, (.bool (((a_l.getD (i1).toNat ([] : List Int)) : List Int) == a_s)))], []⟩ : St) [(InB i1 a_l.length)] hn mix (no_hand hΓ) (by kernel_rfl) ⟨hc2, trivial⟩ ?_
      refine awp_cond (((a_l.getD (i1).toNat ([] : List Int)) : List Int) == a_s) (by kernel_rfl) (fun hb => ?_) (fun hb => ?_)
      · replace h := cond_t hb h
        clear hb
        refine rgs0 (⟨[(4, (.int .i64 i1))], []⟩ : St) hn mix (no_hand hΓ) (by kernel_rfl) ?_
        refine awp_ret ?_
        refine block_ret ?_
        refine then_ret ?_
        obtain rfl := Option.some.inj h
        exact ⟨(by intro hh; cases hh), rfl, ⟨.inl rfl, [], by kernel_rfl⟩⟩
      · replace h := cond_f hb h
        clear hb
        refine awp_skip ?_
        refine block_normal ?_
        refine then_normal ?_
        refine rg0 (⟨[(0, (Q290 a_l)), (1, (.str a_s)), (5, (.int .i64 (w64 (i1 + (1 : Int)))))], []⟩ : St) hn mix (no_hand hΓ) (by kernel_rfl) ?_
        obtain rfl := Option.some.inj h
        exact ⟨rfl, Le.refl _ _⟩
    · replace h := cond_f hb h
      clear hb
      refine awp_exit ?_
      refine then_exit ?_
      obtain rfl := Option.some.inj h
      exact ⟨(by intro hh; cases hh), rfl, le_restrict_eq [] [] (by kernel_rfl) (no_hand hΓ)⟩
  · clear hx3
    rcases x3 with _ | r5
    · rintro e st' ⟨rfl, hl4⟩
      refine block_here ?_
      refine then_normal ?_
      refine awp_le hl4 ?_
      refine rgs0 (⟨[(4, (.int .i64 (-1 : Int)))], []⟩ : St) hn mix (no_hand hΓ) (by kernel_rfl) ?_
      refine awp_ret ?_
      obtain rfl := Option.some.inj h
      exact ⟨.inl rfl, [], by kernel_rfl⟩
    · rintro e st' ⟨rfl, hk⟩
      refine block_ret ?_
      refine then_ret ?_
      obtain rfl := Option.some.inj h
      exact hk

noncomputable def m_lockstepref05_Reader_block_L1  : (List (TPhi) × List (List Int) × Int × Bool) → Option (LR (List (TPhi) × List (List Int) × Int × Bool) (List (TPhi) × List (List Int) × Int × Bool)) :=
  fun ((l1, l2, i3, b4) : (List (TPhi) × List (List Int) × Int × Bool)) => ((bif ((!b4) == true) then m_lockstepref05_Reader_Next (⟨l2, i3, b4⟩ : TReader) else some (([] : List Int), (default : TReader))).bind fun x9 => (bif (bif (!b4) then ((x9.1 : List Int) == ([112, 104, 105] : List Int)) else false) then ((m_lockstepref05_Reader_Int (⟨(bif ((!b4) == true) then x9.2.W else l2), (w64 ((bif ((!b4) == true) then x9.2.At else i3) + (1 : Int))), (bif ((!b4) == true) then x9.2.Bad else b4)⟩ : TReader)).bind fun x10 => ((m_lockstepref05_Reader_Int x10.2).bind fun x11 => ((m_lockstepref05_Reader_List x11.2).bind fun x12 => ((m_lockstepref05_Reader_List x12.2).bind fun x13 => (chk (l1.length + ([(⟨x10.1, x11.1, x12.1, x13.1⟩ : TPhi)] : List (TPhi)).length ≤ room) (some (.next ((l1 ++ ([(⟨x10.1, x11.1, x12.1, x13.1⟩ : TPhi)] : List (TPhi))), x13.2.W, x13.2.At, x13.2.Bad)))))))) else (some (.done (l1, (bif ((!b4) == true) then x9.2.W else l2), (bif ((!b4) == true) then x9.2.At else i3), (bif ((!b4) == true) then x9.2.Bad else b4))))))
noncomputable def m_lockstepref05_Reader_block_L2  : (Int × List (TOp) × List (List Int) × Int × Bool) → Option (LR (Int × List (TOp) × List (List Int) × Int × Bool) (List (TOp) × List (List Int) × Int × Bool)) :=
  fun ((i20, l21, l22, i23, b24) : (Int × List (TOp) × List (List Int) × Int × Bool)) => (bif (bif (!b24) then (decide (((0 : Int) : Int) ≤ i20)) else false) then ((m_lockstepref05_Reader_Int (⟨l22, (w64 (i23 + (1 : Int))), b24⟩ : TReader)).bind fun x29 => ((m_lockstepref05_Reader_Int x29.2).bind fun x30 => ((m_lockstepref05_Reader_Int x30.2).bind fun x31 => ((m_lockstepref05_Reader_List x31.2).bind fun x32 => ((m_lockstepref05_Reader_Num (18446744073709551615 : Int) x32.2).bind fun x33 => (chk (l21.length + ([(⟨i20, x29.1, x30.1, x31.1, x32.1, x33.1⟩ : TOp)] : List (TOp)).length ≤ room) ((m_lockstepref05_kinds).bind fun x35 => ((m_lockstepref05_Reader_Next x33.2).bind fun x36 => ((m_lockstepref05_find x35 x36.1).bind fun x37 => (some (.next (x37, (l21 ++ ([(⟨i20, x29.1, x30.1, x31.1, x32.1, x33.1⟩ : TOp)] : List (TOp))), x36.2.W, x36.2.At, x36.2.Bad)))))))))))) else (some (.done (l21, l22, i23, b24))))
noncomputable def Q304 : AV := (.int .i64 (0 : Int))
noncomputable def Q303 : AV := (.slice 0 0 (fun _ => []) .exact)
noncomputable def Q300 (x41 : (List Int × TReader)) : AV := (AV.list 1 eS ([] : List Int) x41.2.W .none)
noncomputable def Q326 (l25 : List (TOp)) : AV := (AV.list 6 eTOp (default : TOp) l25 (.own 5301))
noncomputable def Q308 (l5 : List (TPhi)) : AV := (AV.list 4 eTPhi (default : TPhi) l5 (.own 5300))
noncomputable def Q321 : AV := (AV.list 1 eI64 (0 : Int) ([] : List Int) .exact)
noncomputable def Q330 (x41 : (List Int × TReader)) : List AV := [(Q300 x41), (.int .i64 x41.2.At), (.bool x41.2.Bad)]
noncomputable def Q297 (x10 : (Int × TReader)) (x11 : (Int × TReader)) (x12 : (List (Int) × TReader)) (x13 : (List (Int) × TReader)) := ([(⟨x10.1, x11.1, x12.1, x13.1⟩ : TPhi)] : List (TPhi))
noncomputable def Q298 : List (Nat × AV) := [(0, (.ptr 30000 0)), (2, (.ptr 2 0)), (3, (.ptr 3 0))]
noncomputable def Q332 (i20 : Int) : List AV := [(.int .i64 i20), Q304, Q304, Q304, Q321, (.int .u64 (0 : Int))]
noncomputable def Q295 (i20 : Int) (x29 : (Int × TReader)) (x30 : (Int × TReader)) (x31 : (Int × TReader)) (x32 : (List (Int) × TReader)) (x33 : (Int × TReader)) := ([(⟨i20, x29.1, x30.1, x31.1, x32.1, x33.1⟩ : TOp)] : List (TOp))
noncomputable def Q301 : List (Nat × AV) := [(0, (.ptr 30000 0)), (2, (.ptr 2 0)), (3, (.ptr 3 0)), (6, (.ptr 6 0))]
noncomputable def Q309 : List (Nat × AV) := [(0, (.ptr 30000 0)), (2, (.ptr 2 0)), (3, (.ptr 3 0)), (4, (.ptr 4 0))]
noncomputable def Q331 (x41 : (List Int × TReader)) : List AV := [(Q300 x41), (.int .i64 (w64 (x41.2.At + (1 : Int)))), (.bool x41.2.Bad)]
noncomputable def Q329 (i20 : Int) : List (Nat × AV) := [(0, (.ptr 30000 0)), (2, (.ptr 2 0)), (3, (.ptr 3 0)), (5, (.int .i64 i20))]
noncomputable def Q328 (b4 : Bool) (x9 : (List Int × TReader)) := (bif (!b4) then ((x9.1 : List Int) == ([112, 104, 105] : List Int)) else false)
noncomputable def Q320 (a_w0 : TReader) : List AV := [(AV.list 1 eS ([] : List Int) a_w0.W .none), (.int .i64 a_w0.At), (.bool a_w0.Bad)]
noncomputable def Q306 (x18 : (List Int × TReader)) : List AV := [(AV.list 1 eS ([] : List Int) x18.2.W .none), (.int .i64 x18.2.At), (.bool x18.2.Bad)]
noncomputable def Q307 (x33 : (Int × TReader)) : List AV := [(AV.list 1 eS ([] : List Int) x33.2.W .none), (.int .i64 x33.2.At), (.bool x33.2.Bad)]
noncomputable def Q310 (x10 : (Int × TReader)) : List AV := [(AV.list 1 eS ([] : List Int) x10.2.W .none), (.int .i64 x10.2.At), (.bool x10.2.Bad)]
noncomputable def Q311 (x11 : (Int × TReader)) : List AV := [(AV.list 1 eS ([] : List Int) x11.2.W .none), (.int .i64 x11.2.At), (.bool x11.2.Bad)]
noncomputable def Q312 (x12 : (List (Int) × TReader)) : List AV := [(AV.list 1 eS ([] : List Int) x12.2.W .none), (.int .i64 x12.2.At), (.bool x12.2.Bad)]
noncomputable def Q313 (x13 : (List (Int) × TReader)) : List AV := [(AV.list 1 eS ([] : List Int) x13.2.W .none), (.int .i64 x13.2.At), (.bool x13.2.Bad)]
noncomputable def Q314 (x29 : (Int × TReader)) : List AV := [(AV.list 1 eS ([] : List Int) x29.2.W .none), (.int .i64 x29.2.At), (.bool x29.2.Bad)]
noncomputable def Q315 (x30 : (Int × TReader)) : List AV := [(AV.list 1 eS ([] : List Int) x30.2.W .none), (.int .i64 x30.2.At), (.bool x30.2.Bad)]
noncomputable def Q316 (x31 : (Int × TReader)) : List AV := [(AV.list 1 eS ([] : List Int) x31.2.W .none), (.int .i64 x31.2.At), (.bool x31.2.Bad)]
noncomputable def Q317 (x32 : (List (Int) × TReader)) : List AV := [(AV.list 1 eS ([] : List Int) x32.2.W .none), (.int .i64 x32.2.At), (.bool x32.2.Bad)]
noncomputable def Q318 (x43 : (Int × TReader)) : List AV := [(AV.list 1 eS ([] : List Int) x43.2.W .none), (.int .i64 x43.2.At), (.bool x43.2.Bad)]
noncomputable def Q319 (x44 : (List (Int) × TReader)) : List AV := [(AV.list 1 eS ([] : List Int) x44.2.W .none), (.int .i64 x44.2.At), (.bool x44.2.Bad)]
noncomputable def Q327 (x36 : (List Int × TReader)) : List AV := [(AV.list 1 eS ([] : List Int) x36.2.W .none), (.int .i64 x36.2.At), (.bool x36.2.Bad)]
noncomputable def Q324 (l22 : List (List Int)) (i23 : Int) (b24 : Bool) : List AV := [(AV.list 1 eS ([] : List Int) l22 .none), (.int .i64 (w64 (i23 + (1 : Int)))), (.bool b24)]
noncomputable def Q291 : List AV := [Q303, Q303, Q304, Q304, Q303]
noncomputable def Q293 (l1 : List (TPhi)) : List AV := [(AV.list 4 eTPhi (default : TPhi) l1 (.own 5300)), Q303, Q304, Q304, Q303]
noncomputable def Q302 (l5 : List (TPhi)) : List AV := [(Q308 l5), Q303, Q304, Q304, Q303]
noncomputable def Q325 (l1 : List (TPhi)) (l2 : List (List Int)) (i3 : Int) (b4 : Bool) := (⟨Q298, [(2, .row 49 Q291), (3, .row 49 (Q293 l1)), (5300, .tok 4 53 l1.length), (30000, .row 76 [(AV.list 1 eS ([] : List Int) l2 .none), (.int .i64 i3), (.bool b4)])]⟩ : St)
noncomputable def Q292 (l5 : List (TPhi)) (l21 : List (TOp)) : List AV := [(Q308 l5), (AV.list 6 eTOp (default : TOp) l21 (.own 5301)), Q304, Q304, Q303]
noncomputable def Q294 (l5 : List (TPhi)) (l25 : List (TOp)) : List AV := [(Q308 l5), (Q326 l25), Q304, Q304, Q303]
noncomputable def Q296 (l5 : List (TPhi)) (l25 : List (TOp)) : List AV := [(Q308 l5), (Q326 l25), Q304, Q304, Q321]
noncomputable def Q323 (l5 : List (TPhi)) (l25 : List (TOp)) (x41 : (List Int × TReader)) := (⟨[(2, (.ptr 2 0))], [(2, .row 49 (Q296 l5 l25)), (5300, .tok 4 53 l5.length), (5301, .tok 6 43 l25.length), (30000, .row 76 [(Q300 x41), (.int .i64 x41.2.At), (.bool true)])]⟩ : St)
noncomputable def Q322 (x19 : Int) (l5 : List (TPhi)) (x18 : (List Int × TReader)) := (⟨[(0, (.ptr 30000 0)), (2, (.ptr 2 0)), (3, (.ptr 3 0)), (5, (.int .i64 x19))], [(2, .row 49 Q291), (3, .row 49 (Q302 l5)), (5300, .tok 4 53 l5.length), (30000, .row 76 (Q306 x18))]⟩ : St)
noncomputable def Q305 (l5 : List (TPhi)) (l21 : List (TOp)) (l22 : List (List Int)) (i23 : Int) (b24 : Bool) : List (Nat × Own) := [(2, .row 49 Q291), (3, .row 49 (Q292 l5 l21)), (5300, .tok 4 53 l5.length), (5301, .tok 6 43 l21.length), (30000, .row 76 [(AV.list 1 eS ([] : List Int) l22 .none), (.int .i64 i23), (.bool b24)])]
noncomputable def Q299 (b4 : Bool) (x9 : (List Int × TReader)) (l2 : List (List Int)) (i3 : Int) : List AV := [(AV.list 1 eS ([] : List Int) (bif ((!b4) == true) then x9.2.W else l2) .none), (.int .i64 (w64 ((bif ((!b4) == true) then x9.2.At else i3) + (1 : Int)))), (.bool (bif ((!b4) == true) then x9.2.Bad else b4))]
noncomputable def m_lockstepref05_Reader_block (a_w0 : TReader) : Option (TBlock × TReader) :=
  ((loopO (S := (List (TPhi) × List (List Int) × Int × Bool)) (X := (List (TPhi) × List (List Int) × Int × Bool)) m_lockstepref05_Reader_block_L1 (([] : List TPhi), a_w0.W, a_w0.At, a_w0.Bad)).bind (fun x15 => (match x15 with | (l5, l6, i7, b8) => ((m_lockstepref05_kinds).bind fun x17 => ((m_lockstepref05_Reader_Next (⟨l6, i7, b8⟩ : TReader)).bind fun x18 => ((m_lockstepref05_find x17 x18.1).bind fun x19 => ((loopO (S := (Int × List (TOp) × List (List Int) × Int × Bool)) (X := (List (TOp) × List (List Int) × Int × Bool)) m_lockstepref05_Reader_block_L2 (x19, ([] : List TOp), x18.2.W, x18.2.At, x18.2.Bad)).bind (fun x38 => (match x38 with | (l25, l26, i27, b28) => ((m_lockstepref05_ends).bind fun x40 => ((m_lockstepref05_Reader_Next (⟨l26, i27, b28⟩ : TReader)).bind fun x41 => ((m_lockstepref05_find x40 x41.1).bind fun x42 => (bif (bif x41.2.Bad then true else (decide ((x42 : Int) < (0 : Int)))) then (some ((⟨l5, l25, (⟨(0 : Int), (0 : Int), ([] : List Int)⟩ : TEnd)⟩ : TBlock), (⟨x41.2.W, x41.2.At, true⟩ : TReader))) else ((m_lockstepref05_Reader_Int (⟨x41.2.W, (w64 (x41.2.At + (1 : Int))), x41.2.Bad⟩ : TReader)).bind fun x43 => ((m_lockstepref05_Reader_List x43.2).bind fun x44 => (some ((⟨l5, l25, (⟨x42, x43.1, x44.1⟩ : TEnd)⟩ : TBlock), x44.2)))))))))))))))))
theorem ok_lockstepref05_Reader_block (a_w0 : TReader) (r : (TBlock × TReader)) (h : m_lockstepref05_Reader_block a_w0 = some r) : Spec Tryd.prog 39 [(.ptr 30000 0)] [(30000, .row 76 [(AV.list 1 eS ([] : List Int) a_w0.W .none), (.int .i64 a_w0.At), (.bool a_w0.Bad)])] (.agg (eTBlock r.1)) [(30000, .row 76 [(AV.list 1 eS ([] : List Int) r.2.W .none), (.int .i64 r.2.At), (.bool r.2.Bad)])] := by
  refine spec_of_awp (fn := Tryd.f39) Tryd.func39 rfl rfl (by kernel_rfl) (fun Γ hn hΓ => ?_)
  have hn : Γ.n = 124 := hn
  unfold m_lockstepref05_Reader_block at h
  refine rgs0 (⟨[(0, (.ptr 30000 0)), (2, (.ptr 2 0))], [(2, .row 49 Q291), (30000, .row 76 (Q320 a_w0))]⟩ : St) hn mix (hand_in hΓ rfl) (by kernel_rfl) ?_
  refine rgs0 (⟨Q298, [(2, .row 49 Q291), (3, .row 49 Q291), (30000, .row 76 (Q320 a_w0))]⟩ : St) hn mix (hand_in hΓ rfl) (by kernel_rfl) ?_
  refine awp_seq ?_
  refine awp_block ?_
  refine awp_le (st' := (fun ((l1, l2, i3, b4) : (List (TPhi) × List (List Int) × Int × Bool)) => (Q325 l1 l2 i3 b4)) (([] : List TPhi), a_w0.W, a_w0.At, a_w0.Bad)) (Le.trans (le_restrict_eq (st' := (⟨Q298, [(2, .row 49 Q291), (3, .row 49 Q291), (30000, .row 76 (Q320 a_w0))]⟩ : St)) [0, 2, 3] [2, 3, 30000] (by kernel_rfl) (hand_in hΓ rfl)) (Le.trans (le_tag_cell (r := 3) (j := 0) (nm := 5300) (sz' := 4) (fun i => eTPhi (([] : List TPhi).getD i (default : TPhi))) 53 rfl rfl (nl rfl) rfl (.inr rfl) (fun h_ => absurd h_ (by decide))) (le_restrict_eq (st' := (⟨Q298, [(2, .row 49 Q291), (3, .row 49 [(AV.list 4 eTPhi (default : TPhi) ([] : List TPhi) (.own 5300)), Q303, Q304, Q304, Q303]), (5300, .tok 4 53 (([] : List TPhi).length)), (30000, .row 76 (Q320 a_w0))]⟩ : St)) [0, 2, 3] [2, 3, 5300, 30000] (by kernel_rfl) (hand_in hΓ rfl)))) ?_
  obtain ⟨x15, hx15, h⟩ := bind_some h
  refine awp_loop (fun ((l1, l2, i3, b4) : (List (TPhi) × List (List Int) × Int × Bool)) => (Q325 l1 l2 i3 b4)) _ (fun ((l5, l6, i7, b8) : (List (TPhi) × List (List Int) × Int × Bool)) (e : Exit) (st : St) => e = (.exit 0) ∧ Le Γ st (⟨Q298, [(2, .row 49 Q291), (3, .row 49 (Q302 l5)), (5300, .tok 4 53 l5.length), (30000, .row 76 [(AV.list 1 eS ([] : List Int) l6 .none), (.int .i64 i7), (.bool b8)])]⟩ : St)) ?_ hx15 ?_
  · rintro ⟨l1, l2, i3, b4⟩ y h
    unfold m_lockstepref05_Reader_block_L1 at h
    refine awp_seq ?_
    obtain ⟨x9, hx9, h⟩ := bind_some h
    refine rgs [⟨[(30000, 30000)], [], (.str x9.1), [(30000, .row 76 [(AV.list 1 eS ([] : List Int) x9.2.W .none), (.int .i64 x9.2.At), (.bool x9.2.Bad)])]⟩] [] (⟨[(0, (.ptr 30000 0)), (2, (.ptr 2 0)), (3, (.ptr 3 0)), (16, (.bool (Q328 b4 x9)))], [(2, .row 49 Q291), (3, .row 49 (Q293 l1)), (5300, .tok 4 53 l1.length), (30000, .row 76 [(.slice 1 (bif ((!b4) == true) then x9.2.W.length else l2.length) (fun i => bif ((!b4) == true) then eS (x9.2.W.getD i ([] : List Int)) else eS (l2.getD i ([] : List Int))) .none), (.int .i64 (bif ((!b4) == true) then x9.2.At else i3)), (.bool (bif ((!b4) == true) then x9.2.Bad else b4))])]⟩ : St) [(((!b4) == true) = true → ((!b4) == true) = true), (((!b4) == true) = true → (Spec Tryd.prog 38 [(.ptr 30000 0)] [(30000, .row 76 [(AV.list 1 eS ([] : List Int) l2 .none), (.int .i64 i3), (.bool b4)])] (.str x9.1) [(30000, .row 76 [(AV.list 1 eS ([] : List Int) x9.2.W .none), (.int .i64 x9.2.At), (.bool x9.2.Bad)])])), (((!b4) == true) = true → ((!b4) == true) = true), ((!b4) = true → ((!b4) == true) = true)] hn mix (hand_in hΓ rfl) (by kernel_rfl) ⟨(fun hg => hg), (fun hg => (ok_lockstepref05_Reader_Next (⟨l2, i3, b4⟩ : TReader) x9 (cond_t hg hx9))), (fun hg => hg), gT, trivial⟩ ?_
    refine awp_le (le_of (st' := (⟨[(0, (.ptr 30000 0)), (2, (.ptr 2 0)), (3, (.ptr 3 0)), (16, (.bool (Q328 b4 x9)))], [(2, .row 49 Q291), (3, .row 49 (Q293 l1)), (5300, .tok 4 53 l1.length), (30000, .row 76 [(AV.list 1 eS ([] : List Int) (bif ((!b4) == true) then x9.2.W else l2) .none), (.int .i64 (bif ((!b4) == true) then x9.2.At else i3)), (.bool (bif ((!b4) == true) then x9.2.Bad else b4))])]⟩ : St)) (TmpsLe.refl _) (.same (.same (.same (.row (.cons av_bif_list (.cons (AVle.refl _) (.cons (AVle.refl _) .nil))) .nil))))) ?_
    refine awp_cond (Q328 b4 x9) (by kernel_rfl) (fun hb => ?_) (fun hb => ?_)
    · replace h := cond_t hb h
      clear hb
      refine awp_skip ?_
      refine then_normal ?_
      refine awp_block ?_
      refine rgs0 (⟨Q298, [(2, .row 49 Q291), (3, .row 49 (Q293 l1)), (5300, .tok 4 53 l1.length), (30000, .row 76 (Q299 b4 x9 l2 i3))]⟩ : St) hn mix (hand_in hΓ rfl) (by kernel_rfl) ?_
      refine rgs0 (⟨Q309, [(2, .row 49 Q291), (3, .row 49 (Q293 l1)), (4, .row 53 [Q304, Q304, Q303, Q303]), (5300, .tok 4 53 l1.length), (30000, .row 76 (Q299 b4 x9 l2 i3))]⟩ : St) hn mix (hand_in hΓ rfl) (by kernel_rfl) ?_
      obtain ⟨x10, hx10, h⟩ := bind_some h
      refine rgs [⟨[(30000, 30000)], [], (.int .i64 x10.1), [(30000, .row 76 (Q310 x10))]⟩] [] (⟨Q309, [(2, .row 49 Q291), (3, .row 49 (Q293 l1)), (4, .row 53 [(.int .i64 x10.1), Q304, Q303, Q303]), (5300, .tok 4 53 l1.length), (30000, .row 76 (Q310 x10))]⟩ : St) [(Spec Tryd.prog 37 [(.ptr 30000 0)] [(30000, .row 76 (Q299 b4 x9 l2 i3))] (.int .i64 x10.1) [(30000, .row 76 (Q310 x10))])] hn mix (hand_in hΓ rfl) (by kernel_rfl) ⟨(ok_lockstepref05_Reader_Int (⟨(bif ((!b4) == true) then x9.2.W else l2), (w64 ((bif ((!b4) == true) then x9.2.At else i3) + (1 : Int))), (bif ((!b4) == true) then x9.2.Bad else b4)⟩ : TReader) x10 hx10), trivial⟩ ?_
      obtain ⟨x11, hx11, h⟩ := bind_some h
      refine rgs [⟨[(30000, 30000)], [], (.int .i64 x11.1), [(30000, .row 76 (Q311 x11))]⟩] [] (⟨Q309, [(2, .row 49 Q291), (3, .row 49 (Q293 l1)), (4, .row 53 [(.int .i64 x10.1), (.int .i64 x11.1), Q303, Q303]), (5300, .tok 4 53 l1.length), (30000, .row 76 (Q311 x11))]⟩ : St) [(Spec Tryd.prog 37 [(.ptr 30000 0)] [(30000, .row 76 (Q310 x10))] (.int .i64 x11.1) [(30000, .row 76 (Q311 x11))])] hn mix (hand_in hΓ rfl) (by kernel_rfl) ⟨(ok_lockstepref05_Reader_Int x10.2 x11 hx11), trivial⟩ ?_
      obtain ⟨x12, hx12, h⟩ := bind_some h
      refine rgs [⟨[(30000, 30000)], [(20000, 31)], (AV.list 1 eI64 (0 : Int) x12.1 (.own 20000)), [(30000, .row 76 (Q312 x12)), (20000, .tok 1 3 x12.1.length)]⟩] [] (⟨Q309, [(2, .row 49 Q291), (3, .row 49 (Q293 l1)), (4, .row 53 [(.int .i64 x10.1), (.int .i64 x11.1), (AV.list 1 eI64 (0 : Int) x12.1 (.own 31)), Q303]), (31, .tok 1 3 x12.1.length), (5300, .tok 4 53 l1.length), (30000, .row 76 (Q312 x12))]⟩ : St) [(Spec Tryd.prog 36 [(.ptr 30000 0)] [(30000, .row 76 (Q311 x11))] (AV.list 1 eI64 (0 : Int) x12.1 (.own 20000)) [(30000, .row 76 (Q312 x12)), (20000, .tok 1 3 x12.1.length)])] hn mix (hand_in hΓ rfl) (by kernel_rfl) ⟨(ok_lockstepref05_Reader_List x11.2 x12 hx12), trivial⟩ ?_
      obtain ⟨x13, hx13, h⟩ := bind_some h
      refine rgs [⟨[(30000, 30000)], [(20000, 34)], (AV.list 1 eI64 (0 : Int) x13.1 (.own 20000)), [(30000, .row 76 (Q313 x13)), (20000, .tok 1 3 x13.1.length)]⟩] [] (⟨Q309, [(2, .row 49 Q291), (3, .row 49 (Q293 l1)), (4, .row 53 [(.int .i64 x10.1), (.int .i64 x11.1), (AV.list 1 eI64 (0 : Int) x12.1 (.own 31)), (AV.list 1 eI64 (0 : Int) x13.1 (.own 34))]), (31, .tok 1 3 x12.1.length), (34, .tok 1 3 x13.1.length), (5300, .tok 4 53 l1.length), (30000, .row 76 (Q313 x13))]⟩ : St) [(Spec Tryd.prog 36 [(.ptr 30000 0)] [(30000, .row 76 (Q312 x12))] (AV.list 1 eI64 (0 : Int) x13.1 (.own 20000)) [(30000, .row 76 (Q313 x13)), (20000, .tok 1 3 x13.1.length)])] hn mix (hand_in hΓ rfl) (by kernel_rfl) ⟨(ok_lockstepref05_Reader_List x12.2 x13 hx13), trivial⟩ ?_
      obtain ⟨hc14, h⟩ := chk_some h
      refine rg [] [(39, (AV.list 4 eTPhi (default : TPhi) (Q297 x10 x11 x12 x13) .exact)), (40, (AV.list 4 eTPhi (default : TPhi) (l1 ++ (Q297 x10 x11 x12 x13)) (.own 5300)))] (⟨Q298, [(2, .row 49 Q291), (3, .row 49 [(AV.list 4 eTPhi (default : TPhi) (l1 ++ (Q297 x10 x11 x12 x13)) (.own 5300)), Q303, Q304, Q304, Q303]), (5300, .tok 4 53 ((l1 ++ (Q297 x10 x11 x12 x13)).length)), (30000, .row 76 (Q313 x13))]⟩ : St) [(AVle (.slice 4 1 (fun i => ([[(.int .i64 x10.1), (.int .i64 x11.1), (AV.list 1 eI64 (0 : Int) x12.1 .none), (AV.list 1 eI64 (0 : Int) x13.1 .none)]] : List (List AV)).getD i []) .exact) (AV.list 4 eTPhi (default : TPhi) (Q297 x10 x11 x12 x13) .exact)), (l1.length = l1.length), (l1.length + (Q297 x10 x11 x12 x13).length ≤ room), (AVle (.slice 4 (l1.length + (Q297 x10 x11 x12 x13).length) (appF l1.length (fun i => eTPhi (l1.getD i (default : TPhi))) (fun i => eTPhi ((Q297 x10 x11 x12 x13).getD i (default : TPhi)))) (.own 5300)) (AV.list 4 eTPhi (default : TPhi) (l1 ++ (Q297 x10 x11 x12 x13)) (.own 5300))), (l1.length + (Q297 x10 x11 x12 x13).length = (l1 ++ (Q297 x10 x11 x12 x13)).length)] hn mix (hand_in hΓ rfl) (by kernel_rfl) ⟨(av_lit rfl (fun i hi => map_get (e := eTPhi) (d := (default : TPhi)) (Q297 x10 x11 x12 x13) i hi)), rfl, hc14, av_app, (len_app _ _), trivial⟩ ?_
      refine block_normal ?_
      obtain rfl := Option.some.inj h
      exact ⟨rfl, Le.refl _ _⟩
    · replace h := cond_f hb h
      clear hb
      refine awp_exit ?_
      refine then_exit ?_
      obtain rfl := Option.some.inj h
      exact ⟨(by intro hh; cases hh), rfl, le_restrict_eq [0, 2, 3] [2, 3, 5300, 30000] (by kernel_rfl) (hand_in hΓ rfl)⟩
  · clear hx15
    rcases x15 with ⟨l5, l6, i7, b8⟩
    rintro e st' ⟨rfl, hl16⟩
    refine block_here ?_
    refine then_normal ?_
    refine awp_le hl16 ?_
    obtain ⟨x17, hx17, h⟩ := bind_some h
    obtain ⟨x18, hx18, h⟩ := bind_some h
    obtain ⟨x19, hx19, h⟩ := bind_some h
    refine rgs [⟨[], [(20000, 42)], (AV.list 1 eS ([] : List Int) x17 (.own 20000)), [(20000, .tok 1 9 x17.length)]⟩, ⟨[(30000, 30000)], [], (.str x18.1), [(30000, .row 76 (Q306 x18))]⟩, ⟨[], [], (.int .i64 x19), []⟩] [] (Q322 x19 l5 x18) [(Spec Tryd.prog 29 [] [] (AV.list 1 eS ([] : List Int) x17 (.own 20000)) [(20000, .tok 1 9 x17.length)]), (Spec Tryd.prog 38 [(.ptr 30000 0)] [(30000, .row 76 [(AV.list 1 eS ([] : List Int) l6 .none), (.int .i64 i7), (.bool b8)])] (.str x18.1) [(30000, .row 76 (Q306 x18))]), (Spec Tryd.prog 40 [(AV.list 1 eS ([] : List Int) x17 .none), (.str x18.1)] [] (.int .i64 x19) [])] hn mix (hand_in hΓ rfl) (by kernel_rfl) ⟨(ok_lockstepref05_kinds  x17 hx17), (ok_lockstepref05_Reader_Next (⟨l6, i7, b8⟩ : TReader) x18 hx18), (ok_lockstepref05_find x17 x18.1 x19 hx19), trivial⟩ ?_
    refine awp_seq ?_
    refine awp_block ?_
    refine awp_le (st' := (fun ((i20, l21, l22, i23, b24) : (Int × List (TOp) × List (List Int) × Int × Bool)) => (⟨(Q329 i20), (Q305 l5 l21 l22 i23 b24)⟩ : St)) (x19, ([] : List TOp), x18.2.W, x18.2.At, x18.2.Bad)) (Le.trans (le_restrict_eq (st' := (Q322 x19 l5 x18)) [0, 2, 3, 5] [2, 3, 5300, 30000] (by kernel_rfl) (hand_in hΓ rfl)) (Le.trans (le_tag_cell (r := 3) (j := 1) (nm := 5301) (sz' := 6) (fun i => eTOp (([] : List TOp).getD i (default : TOp))) 43 rfl rfl (nl rfl) rfl (.inr rfl) (fun h_ => absurd h_ (by decide))) (le_restrict_eq (st' := (⟨[(0, (.ptr 30000 0)), (2, (.ptr 2 0)), (3, (.ptr 3 0)), (5, (.int .i64 x19))], [(2, .row 49 Q291), (3, .row 49 [(Q308 l5), (AV.list 6 eTOp (default : TOp) ([] : List TOp) (.own 5301)), Q304, Q304, Q303]), (5300, .tok 4 53 l5.length), (5301, .tok 6 43 (([] : List TOp).length)), (30000, .row 76 (Q306 x18))]⟩ : St)) [0, 2, 3, 5] [2, 3, 5300, 5301, 30000] (by kernel_rfl) (hand_in hΓ rfl)))) ?_
    obtain ⟨x38, hx38, h⟩ := bind_some h
    refine awp_loop (fun ((i20, l21, l22, i23, b24) : (Int × List (TOp) × List (List Int) × Int × Bool)) => (⟨(Q329 i20), (Q305 l5 l21 l22 i23 b24)⟩ : St)) _ (fun ((l25, l26, i27, b28) : (List (TOp) × List (List Int) × Int × Bool)) (e : Exit) (st : St) => e = (.exit 2) ∧ Le Γ st (⟨Q298, [(2, .row 49 Q291), (3, .row 49 (Q294 l5 l25)), (5300, .tok 4 53 l5.length), (5301, .tok 6 43 l25.length), (30000, .row 76 [(AV.list 1 eS ([] : List Int) l26 .none), (.int .i64 i27), (.bool b28)])]⟩ : St)) ?_ hx38 ?_
    · rintro ⟨i20, l21, l22, i23, b24⟩ y h
      unfold m_lockstepref05_Reader_block_L2 at h
      refine awp_seq ?_
      refine rgs [] [] (⟨[(0, (.ptr 30000 0)), (2, (.ptr 2 0)), (3, (.ptr 3 0)), (5, (.int .i64 i20)), (54, (.bool (bif (!b24) then (decide (((0 : Int) : Int) ≤ i20)) else false)))], (Q305 l5 l21 l22 i23 b24)⟩ : St) [(((!b24) == true) = true → ((!b24) == true) = true), ((!b24) = true → ((!b24) == true) = true)] hn mix (hand_in hΓ rfl) (by kernel_rfl) ⟨(fun hg => hg), gT, trivial⟩ ?_
      refine awp_cond (bif (!b24) then (decide (((0 : Int) : Int) ≤ i20)) else false) (by kernel_rfl) (fun hb => ?_) (fun hb => ?_)
      · replace h := cond_t hb h
        clear hb
        refine awp_skip ?_
        refine then_normal ?_
        refine awp_block ?_
        refine rgs0 (⟨(Q329 i20), [(2, .row 49 Q291), (3, .row 49 (Q292 l5 l21)), (5300, .tok 4 53 l5.length), (5301, .tok 6 43 l21.length), (30000, .row 76 (Q324 l22 i23 b24))]⟩ : St) hn mix (hand_in hΓ rfl) (by kernel_rfl) ?_
        refine rgs [] [(63, (.agg (Q332 i20)))] (⟨Q301, [(2, .row 49 Q291), (3, .row 49 (Q292 l5 l21)), (6, .row 43 (Q332 i20)), (5300, .tok 4 53 l5.length), (5301, .tok 6 43 l21.length), (30000, .row 76 (Q324 l22 i23 b24))]⟩ : St) [(AVle (.agg [(.int .i64 i20), Q304, Q304, Q304, Q303, (.int .u64 (0 : Int))]) (.agg (Q332 i20)))] hn mix (hand_in hΓ rfl) (by kernel_rfl) ⟨(AVle.agg (.cons (AVle.refl _) (.cons (AVle.refl _) (.cons (AVle.refl _) (.cons (AVle.refl _) (.cons av_nil (.cons (AVle.refl _) .nil))))))), trivial⟩ ?_
        obtain ⟨x29, hx29, h⟩ := bind_some h
        refine rgs [⟨[(30000, 30000)], [], (.int .i64 x29.1), [(30000, .row 76 (Q314 x29))]⟩] [] (⟨Q301, [(2, .row 49 Q291), (3, .row 49 (Q292 l5 l21)), (6, .row 43 [(.int .i64 i20), (.int .i64 x29.1), Q304, Q304, Q321, (.int .u64 (0 : Int))]), (5300, .tok 4 53 l5.length), (5301, .tok 6 43 l21.length), (30000, .row 76 (Q314 x29))]⟩ : St) [(Spec Tryd.prog 37 [(.ptr 30000 0)] [(30000, .row 76 (Q324 l22 i23 b24))] (.int .i64 x29.1) [(30000, .row 76 (Q314 x29))])] hn mix (hand_in hΓ rfl) (by kernel_rfl) ⟨(ok_lockstepref05_Reader_Int (⟨l22, (w64 (i23 + (1 : Int))), b24⟩ : TReader) x29 hx29), trivial⟩ ?_
        obtain ⟨x30, hx30, h⟩ := bind_some h
        refine rgs [⟨[(30000, 30000)], [], (.int .i64 x30.1), [(30000, .row 76 (Q315 x30))]⟩] [] (⟨Q301, [(2, .row 49 Q291), (3, .row 49 (Q292 l5 l21)), (6, .row 43 [(.int .i64 i20), (.int .i64 x29.1), (.int .i64 x30.1), Q304, Q321, (.int .u64 (0 : Int))]), (5300, .tok 4 53 l5.length), (5301, .tok 6 43 l21.length), (30000, .row 76 (Q315 x30))]⟩ : St) [(Spec Tryd.prog 37 [(.ptr 30000 0)] [(30000, .row 76 (Q314 x29))] (.int .i64 x30.1) [(30000, .row 76 (Q315 x30))])] hn mix (hand_in hΓ rfl) (by kernel_rfl) ⟨(ok_lockstepref05_Reader_Int x29.2 x30 hx30), trivial⟩ ?_
        obtain ⟨x31, hx31, h⟩ := bind_some h
        refine rgs [⟨[(30000, 30000)], [], (.int .i64 x31.1), [(30000, .row 76 (Q316 x31))]⟩] [] (⟨Q301, [(2, .row 49 Q291), (3, .row 49 (Q292 l5 l21)), (6, .row 43 [(.int .i64 i20), (.int .i64 x29.1), (.int .i64 x30.1), (.int .i64 x31.1), Q321, (.int .u64 (0 : Int))]), (5300, .tok 4 53 l5.length), (5301, .tok 6 43 l21.length), (30000, .row 76 (Q316 x31))]⟩ : St) [(Spec Tryd.prog 37 [(.ptr 30000 0)] [(30000, .row 76 (Q315 x30))] (.int .i64 x31.1) [(30000, .row 76 (Q316 x31))])] hn mix (hand_in hΓ rfl) (by kernel_rfl) ⟨(ok_lockstepref05_Reader_Int x30.2 x31 hx31), trivial⟩ ?_
        obtain ⟨x32, hx32, h⟩ := bind_some h
        refine rgs [⟨[(30000, 30000)], [(20000, 74)], (AV.list 1 eI64 (0 : Int) x32.1 (.own 20000)), [(30000, .row 76 (Q317 x32)), (20000, .tok 1 3 x32.1.length)]⟩] [] (⟨Q301, [(2, .row 49 Q291), (3, .row 49 (Q292 l5 l21)), (6, .row 43 [(.int .i64 i20), (.int .i64 x29.1), (.int .i64 x30.1), (.int .i64 x31.1), (AV.list 1 eI64 (0 : Int) x32.1 (.own 74)), (.int .u64 (0 : Int))]), (74, .tok 1 3 x32.1.length), (5300, .tok 4 53 l5.length), (5301, .tok 6 43 l21.length), (30000, .row 76 (Q317 x32))]⟩ : St) [(Spec Tryd.prog 36 [(.ptr 30000 0)] [(30000, .row 76 (Q316 x31))] (AV.list 1 eI64 (0 : Int) x32.1 (.own 20000)) [(30000, .row 76 (Q317 x32)), (20000, .tok 1 3 x32.1.length)])] hn mix (hand_in hΓ rfl) (by kernel_rfl) ⟨(ok_lockstepref05_Reader_List x31.2 x32 hx32), trivial⟩ ?_
        obtain ⟨x33, hx33, h⟩ := bind_some h
        refine rgs [⟨[(30000, 30000)], [], (.int .u64 x33.1), [(30000, .row 76 (Q307 x33))]⟩] [] (⟨Q301, [(2, .row 49 Q291), (3, .row 49 (Q292 l5 l21)), (6, .row 43 [(.int .i64 i20), (.int .i64 x29.1), (.int .i64 x30.1), (.int .i64 x31.1), (AV.list 1 eI64 (0 : Int) x32.1 (.own 74)), (.int .u64 x33.1)]), (74, .tok 1 3 x32.1.length), (5300, .tok 4 53 l5.length), (5301, .tok 6 43 l21.length), (30000, .row 76 (Q307 x33))]⟩ : St) [(Spec Tryd.prog 57 [(.ptr 30000 0), (.int .u64 (18446744073709551615 : Int))] [(30000, .row 76 (Q317 x32))] (.int .u64 x33.1) [(30000, .row 76 (Q307 x33))])] hn mix (hand_in hΓ rfl) (by kernel_rfl) ⟨(ok_lockstepref05_Reader_Num (18446744073709551615 : Int) x32.2 x33 hx33), trivial⟩ ?_
        obtain ⟨hc34, h⟩ := chk_some h
        refine rgs [] [(82, (AV.list 6 eTOp (default : TOp) (Q295 i20 x29 x30 x31 x32 x33) .exact)), (83, (AV.list 6 eTOp (default : TOp) (l21 ++ (Q295 i20 x29 x30 x31 x32 x33)) (.own 5301)))] (⟨Q298, [(2, .row 49 Q291), (3, .row 49 [(Q308 l5), (AV.list 6 eTOp (default : TOp) (l21 ++ (Q295 i20 x29 x30 x31 x32 x33)) (.own 5301)), Q304, Q304, Q303]), (5300, .tok 4 53 l5.length), (5301, .tok 6 43 ((l21 ++ (Q295 i20 x29 x30 x31 x32 x33)).length)), (30000, .row 76 (Q307 x33))]⟩ : St) [(AVle (.slice 6 1 (fun i => ([[(.int .i64 i20), (.int .i64 x29.1), (.int .i64 x30.1), (.int .i64 x31.1), (AV.list 1 eI64 (0 : Int) x32.1 .none), (.int .u64 x33.1)]] : List (List AV)).getD i []) .exact) (AV.list 6 eTOp (default : TOp) (Q295 i20 x29 x30 x31 x32 x33) .exact)), (l21.length = l21.length), (l21.length + (Q295 i20 x29 x30 x31 x32 x33).length ≤ room), (AVle (.slice 6 (l21.length + (Q295 i20 x29 x30 x31 x32 x33).length) (appF l21.length (fun i => eTOp (l21.getD i (default : TOp))) (fun i => eTOp ((Q295 i20 x29 x30 x31 x32 x33).getD i (default : TOp)))) (.own 5301)) (AV.list 6 eTOp (default : TOp) (l21 ++ (Q295 i20 x29 x30 x31 x32 x33)) (.own 5301))), (l21.length + (Q295 i20 x29 x30 x31 x32 x33).length = (l21 ++ (Q295 i20 x29 x30 x31 x32 x33)).length)] hn mix (hand_in hΓ rfl) (by kernel_rfl) ⟨(av_lit rfl (fun i hi => map_get (e := eTOp) (d := (default : TOp)) (Q295 i20 x29 x30 x31 x32 x33) i hi)), rfl, hc34, av_app, (len_app _ _), trivial⟩ ?_
        obtain ⟨x35, hx35, h⟩ := bind_some h
        obtain ⟨x36, hx36, h⟩ := bind_some h
        obtain ⟨x37, hx37, h⟩ := bind_some h
        refine rg [⟨[], [(20000, 85)], (AV.list 1 eS ([] : List Int) x35 (.own 20000)), [(20000, .tok 1 9 x35.length)]⟩, ⟨[(30000, 30000)], [], (.str x36.1), [(30000, .row 76 (Q327 x36))]⟩, ⟨[], [], (.int .i64 x37), []⟩] [] (⟨[(0, (.ptr 30000 0)), (2, (.ptr 2 0)), (3, (.ptr 3 0)), (5, (.int .i64 x37))], [(2, .row 49 Q291), (3, .row 49 [(Q308 l5), (AV.list 6 eTOp (default : TOp) (l21 ++ (Q295 i20 x29 x30 x31 x32 x33)) (.own 5301)), Q304, Q304, Q303]), (5300, .tok 4 53 l5.length), (5301, .tok 6 43 ((l21 ++ (Q295 i20 x29 x30 x31 x32 x33)).length)), (30000, .row 76 (Q327 x36))]⟩ : St) [(Spec Tryd.prog 29 [] [] (AV.list 1 eS ([] : List Int) x35 (.own 20000)) [(20000, .tok 1 9 x35.length)]), (Spec Tryd.prog 38 [(.ptr 30000 0)] [(30000, .row 76 (Q307 x33))] (.str x36.1) [(30000, .row 76 (Q327 x36))]), (Spec Tryd.prog 40 [(AV.list 1 eS ([] : List Int) x35 .none), (.str x36.1)] [] (.int .i64 x37) [])] hn mix (hand_in hΓ rfl) (by kernel_rfl) ⟨(ok_lockstepref05_kinds  x35 hx35), (ok_lockstepref05_Reader_Next x33.2 x36 hx36), (ok_lockstepref05_find x35 x36.1 x37 hx37), trivial⟩ ?_
        refine block_normal ?_
        obtain rfl := Option.some.inj h
        exact ⟨rfl, Le.refl _ _⟩
      · replace h := cond_f hb h
        clear hb
        refine awp_exit ?_
        refine then_exit ?_
        obtain rfl := Option.some.inj h
        exact ⟨(by intro hh; cases hh), rfl, le_restrict_eq [0, 2, 3] [2, 3, 5300, 5301, 30000] (by kernel_rfl) (hand_in hΓ rfl)⟩
    · clear hx38
      rcases x38 with ⟨l25, l26, i27, b28⟩
      rintro e st' ⟨rfl, hl39⟩
      refine block_here ?_
      refine then_normal ?_
      refine awp_le hl39 ?_
      obtain ⟨x40, hx40, h⟩ := bind_some h
      obtain ⟨x41, hx41, h⟩ := bind_some h
      obtain ⟨x42, hx42, h⟩ := bind_some h
      refine rgs [⟨[], [(20000, 89)], (AV.list 1 eS ([] : List Int) x40 (.own 20000)), [(20000, .tok 1 9 x40.length)]⟩, ⟨[(30000, 30000)], [], (.str x41.1), [(30000, .row 76 (Q330 x41))]⟩, ⟨[], [], (.int .i64 x42), []⟩] [] (⟨[(0, (.ptr 30000 0)), (2, (.ptr 2 0)), (3, (.ptr 3 0)), (5, (.int .i64 x42))], [(2, .row 49 Q291), (3, .row 49 (Q294 l5 l25)), (5300, .tok 4 53 l5.length), (5301, .tok 6 43 l25.length), (30000, .row 76 (Q330 x41))]⟩ : St) [(Spec Tryd.prog 31 [] [] (AV.list 1 eS ([] : List Int) x40 (.own 20000)) [(20000, .tok 1 9 x40.length)]), (Spec Tryd.prog 38 [(.ptr 30000 0)] [(30000, .row 76 [(AV.list 1 eS ([] : List Int) l26 .none), (.int .i64 i27), (.bool b28)])] (.str x41.1) [(30000, .row 76 (Q330 x41))]), (Spec Tryd.prog 40 [(AV.list 1 eS ([] : List Int) x40 .none), (.str x41.1)] [] (.int .i64 x42) [])] hn mix (hand_in hΓ rfl) (by kernel_rfl) ⟨(ok_lockstepref05_ends  x40 hx40), (ok_lockstepref05_Reader_Next (⟨l26, i27, b28⟩ : TReader) x41 hx41), (ok_lockstepref05_find x40 x41.1 x42 hx42), trivial⟩ ?_
      refine awp_seq ?_
      refine rgs [] [] (⟨[(0, (.ptr 30000 0)), (2, (.ptr 2 0)), (3, (.ptr 3 0)), (5, (.int .i64 x42)), (100, (.bool (bif x41.2.Bad then true else (decide ((x42 : Int) < (0 : Int))))))], [(2, .row 49 Q291), (3, .row 49 (Q294 l5 l25)), (5300, .tok 4 53 l5.length), (5301, .tok 6 43 l25.length), (30000, .row 76 (Q330 x41))]⟩ : St) [((x41.2.Bad == false) = true → (x41.2.Bad == false) = true), (x41.2.Bad = false → (x41.2.Bad == false) = true)] hn mix (hand_in hΓ rfl) (by kernel_rfl) ⟨(fun hg => hg), gF, trivial⟩ ?_
      refine awp_cond (bif x41.2.Bad then true else (decide ((x42 : Int) < (0 : Int)))) (by kernel_rfl) (fun hb => ?_) (fun hb => ?_)
      · replace h := cond_t hb h
        clear hb
        refine rgs0 (⟨[(2, (.ptr 2 0)), (3, (.ptr 3 0))], [(2, .row 49 Q291), (3, .row 49 (Q294 l5 l25)), (5300, .tok 4 53 l5.length), (5301, .tok 6 43 l25.length), (30000, .row 76 [(Q300 x41), (.int .i64 x41.2.At), (.bool true)])]⟩ : St) hn mix (hand_in hΓ rfl) (by kernel_rfl) ?_
        refine rgs [] [(104, (.agg (Q296 l5 l25)))] (Q323 l5 l25 x41) [(AVle (.agg (Q294 l5 l25)) (.agg (Q296 l5 l25)))] hn mix (hand_in hΓ rfl) (by kernel_rfl) ⟨(AVle.agg (.cons (AVle.refl _) (.cons (AVle.refl _) (.cons (AVle.refl _) (.cons (AVle.refl _) (.cons av_nil .nil)))))), trivial⟩ ?_
        refine awp_le (st' := (⟨[(2, (.ptr 2 0))], [(2, .row 49 [(Q308 l5), (Q326 l25), Q304, Q304, (AV.list 1 eI64 (0 : Int) ([] : List Int) .none)]), (5300, .tok 4 53 l5.length), (5301, .tok 6 43 l25.length), (30000, .row 76 [(Q300 x41), (.int .i64 x41.2.At), (.bool true)])]⟩ : St)) (Le.trans (le_restrict_eq (st' := (Q323 l5 l25 x41)) [2] [2, 5300, 5301, 30000] (by kernel_rfl) (hand_in hΓ rfl)) (le_of (.cons (AVle.refl _) .nil) (.row (.cons (AVle.refl _) (.cons (AVle.refl _) (.cons (AVle.refl _) (.cons (AVle.refl _) (.cons AVle.untag .nil))))) (.same (.same (.same .nil)))))) ?_
        refine awp_ret ?_
        refine then_ret ?_
        obtain rfl := Option.some.inj h
        exact ⟨.inl rfl, [(30000, 30000)], by kernel_rfl⟩
      · replace h := cond_f hb h
        clear hb
        refine awp_skip ?_
        refine then_normal ?_
        refine rgs0 (⟨[(0, (.ptr 30000 0)), (2, (.ptr 2 0)), (3, (.ptr 3 0)), (5, (.int .i64 x42))], [(2, .row 49 Q291), (3, .row 49 (Q294 l5 l25)), (5300, .tok 4 53 l5.length), (5301, .tok 6 43 l25.length), (30000, .row 76 (Q331 x41))]⟩ : St) hn mix (hand_in hΓ rfl) (by kernel_rfl) ?_
        refine rgs0 (⟨Q298, [(2, .row 49 Q291), (3, .row 49 [(Q308 l5), (Q326 l25), (.int .i64 x42), Q304, Q303]), (5300, .tok 4 53 l5.length), (5301, .tok 6 43 l25.length), (30000, .row 76 (Q331 x41))]⟩ : St) hn mix (hand_in hΓ rfl) (by kernel_rfl) ?_
        obtain ⟨x43, hx43, h⟩ := bind_some h
        refine rgs [⟨[(30000, 30000)], [], (.int .i64 x43.1), [(30000, .row 76 (Q318 x43))]⟩] [] (⟨Q298, [(2, .row 49 Q291), (3, .row 49 [(Q308 l5), (Q326 l25), (.int .i64 x42), (.int .i64 x43.1), Q303]), (5300, .tok 4 53 l5.length), (5301, .tok 6 43 l25.length), (30000, .row 76 (Q318 x43))]⟩ : St) [(Spec Tryd.prog 37 [(.ptr 30000 0)] [(30000, .row 76 (Q331 x41))] (.int .i64 x43.1) [(30000, .row 76 (Q318 x43))])] hn mix (hand_in hΓ rfl) (by kernel_rfl) ⟨(ok_lockstepref05_Reader_Int (⟨x41.2.W, (w64 (x41.2.At + (1 : Int))), x41.2.Bad⟩ : TReader) x43 hx43), trivial⟩ ?_
        obtain ⟨x44, hx44, h⟩ := bind_some h
        refine rgs [⟨[(30000, 30000)], [(20000, 120)], (AV.list 1 eI64 (0 : Int) x44.1 (.own 20000)), [(30000, .row 76 (Q319 x44)), (20000, .tok 1 3 x44.1.length)]⟩] [] (⟨[(2, (.ptr 2 0)), (3, (.ptr 3 0))], [(2, .row 49 Q291), (3, .row 49 [(Q308 l5), (Q326 l25), (.int .i64 x42), (.int .i64 x43.1), (AV.list 1 eI64 (0 : Int) x44.1 (.own 120))]), (120, .tok 1 3 x44.1.length), (5300, .tok 4 53 l5.length), (5301, .tok 6 43 l25.length), (30000, .row 76 (Q319 x44))]⟩ : St) [(Spec Tryd.prog 36 [(.ptr 30000 0)] [(30000, .row 76 (Q318 x43))] (AV.list 1 eI64 (0 : Int) x44.1 (.own 20000)) [(30000, .row 76 (Q319 x44)), (20000, .tok 1 3 x44.1.length)])] hn mix (hand_in hΓ rfl) (by kernel_rfl) ⟨(ok_lockstepref05_Reader_List x43.2 x44 hx44), trivial⟩ ?_
        refine rgs0 (⟨[(2, (.ptr 2 0))], [(2, .row 49 [(Q308 l5), (Q326 l25), (.int .i64 x42), (.int .i64 x43.1), (AV.list 1 eI64 (0 : Int) x44.1 (.own 120))]), (120, .tok 1 3 x44.1.length), (5300, .tok 4 53 l5.length), (5301, .tok 6 43 l25.length), (30000, .row 76 (Q319 x44))]⟩ : St) hn mix (hand_in hΓ rfl) (by kernel_rfl) ?_
        refine awp_ret ?_
        obtain rfl := Option.some.inj h
        exact ⟨.inl rfl, [(30000, 30000)], by kernel_rfl⟩

noncomputable def m_lockstepref05_Parse_L1  : (List (TBlock) × List (List Int) × Int × Bool) → Option (LR (List (TBlock) × List (List Int) × Int × Bool) (List (TBlock) × List (List Int) × Int × Bool)) :=
  fun ((l5, l6, i7, b8) : (List (TBlock) × List (List Int) × Int × Bool)) => ((bif ((!b8) == true) then m_lockstepref05_Reader_Next (⟨l6, i7, b8⟩ : TReader) else some (([] : List Int), (default : TReader))).bind fun x13 => (bif (bif (!b8) then ((x13.1 : List Int) == ([98, 108, 111, 99, 107] : List Int)) else false) then ((m_lockstepref05_Reader_block (⟨(bif ((!b8) == true) then x13.2.W else l6), (w64 ((bif ((!b8) == true) then x13.2.At else i7) + (1 : Int))), (bif ((!b8) == true) then x13.2.Bad else b8)⟩ : TReader)).bind fun x14 => (chk (l5.length + ([(⟨x14.1.Phis, x14.1.Ops, (⟨x14.1.End.Kind, x14.1.End.Arg, x14.1.End.To⟩ : TEnd)⟩ : TBlock)] : List (TBlock)).length ≤ room) (some (.next ((l5 ++ ([(⟨x14.1.Phis, x14.1.Ops, (⟨x14.1.End.Kind, x14.1.End.Arg, x14.1.End.To⟩ : TEnd)⟩ : TBlock)] : List (TBlock))), x14.2.W, x14.2.At, x14.2.Bad))))) else (some (.done (l5, (bif ((!b8) == true) then x13.2.W else l6), (bif ((!b8) == true) then x13.2.At else i7), (bif ((!b8) == true) then x13.2.Bad else b8))))))
noncomputable def Q336 (x1 : List (List Int)) := ((((x1.length : Int) : Int) == (0 : Int)) == false)
noncomputable def Q339 : List (Nat × AV) := [(2, (.ptr 2 0)), (4, (.ptr 9 0)), (5, (.ptr 5 0))]
noncomputable def Q337 (b12 : Bool) (i11 : Int) (l10 : List (List Int)) := (bif b12 then true else (decide ((i11 : Int) < (l10.length : Int))))
noncomputable def Q335 : List AV := [(AV.list 1 eI64 (0 : Int) ([] : List Int) .exact), (.int .i64 (0 : Int)), (AV.list 5 eTBlock (default : TBlock) ([] : List TBlock) .exact)]
noncomputable def Q345 := (⟨[(2, (.ptr 2 0)), (3, (.int .i64 (3 : Int)))], [(2, .row 25 Q335)]⟩ : St)
noncomputable def Q350 (x1 : List (List Int)) : List AV := [(AV.list 1 eS ([] : List Int) x1 (.own 7)), (.int .i64 (1 : Int)), (.bool false)]
noncomputable def Q340 (x4 : (Int × TReader)) : List AV := [(AV.list 1 eS ([] : List Int) x4.2.W .none), (.int .i64 x4.2.At), (.bool x4.2.Bad)]
noncomputable def Q341 (x3 : (List (Int) × TReader)) : List AV := [(AV.list 1 eS ([] : List Int) x3.2.W .none), (.int .i64 x3.2.At), (.bool x3.2.Bad)]
noncomputable def Q348 (x14 : (TBlock × TReader)) : List AV := [(AV.list 1 eS ([] : List Int) x14.2.W .none), (.int .i64 x14.2.At), (.bool x14.2.Bad)]
noncomputable def Q347 (b8 : Bool) (x13 : (List Int × TReader)) := (bif (!b8) then ((x13.1 : List Int) == ([98, 108, 111, 99, 107] : List Int)) else false)
noncomputable def Q333 : List AV := [(.slice 0 0 (fun _ => []) .exact), (.int .i64 (0 : Int)), (.slice 0 0 (fun _ => []) .exact)]
noncomputable def Q334 (x14 : (TBlock × TReader)) := ([(⟨x14.1.Phis, x14.1.Ops, (⟨x14.1.End.Kind, x14.1.End.Arg, x14.1.End.To⟩ : TEnd)⟩ : TBlock)] : List (TBlock))
noncomputable def Q338 (x3 : (List (Int) × TReader)) (x4 : (Int × TReader)) (l5 : List (TBlock)) : List AV := [(AV.list 1 eI64 (0 : Int) x3.1 (.own 27)), (.int .i64 x4.1), (AV.list 5 eTBlock (default : TBlock) l5 (.own 5502))]
noncomputable def Q342 (x3 : (List (Int) × TReader)) (x4 : (Int × TReader)) (l9 : List (TBlock)) : List AV := [(AV.list 1 eI64 (0 : Int) x3.1 (.own 27)), (.int .i64 x4.1), (AV.list 5 eTBlock (default : TBlock) l9 (.own 5502))]
noncomputable def Q349 (x1 : List (List Int)) := (bif (((x1.length : Int) : Int) == (0 : Int)) then true else (!(((x1.getD ((0 : Int)).toNat ([] : List Int)) : List Int) == ([102, 117, 110, 99] : List Int))))
noncomputable def Q346 (x3 : (List (Int) × TReader)) (x4 : (Int × TReader)) := (⟨Q339, [(2, .row 25 Q333), (5, .row 25 [(AV.list 1 eI64 (0 : Int) x3.1 (.own 27)), (.int .i64 x4.1), (.slice 0 0 (fun _ => []) .exact)]), (9, .row 76 (Q340 x4)), (27, .tok 1 3 x3.1.length)]⟩ : St)
noncomputable def Q344 := (⟨[(2, (.ptr 2 0)), (3, (.int .i64 (3 : Int)))], [(2, .row 25 [(AV.list 1 eI64 (0 : Int) ([] : List Int) .none), (.int .i64 (0 : Int)), (AV.list 5 eTBlock (default : TBlock) ([] : List TBlock) .none)])]⟩ : St)
noncomputable def Q343 (b8 : Bool) (x13 : (List Int × TReader)) (l6 : List (List Int)) (i7 : Int) : List AV := [(AV.list 1 eS ([] : List Int) (bif ((!b8) == true) then x13.2.W else l6) .none), (.int .i64 (w64 ((bif ((!b8) == true) then x13.2.At else i7) + (1 : Int)))), (.bool (bif ((!b8) == true) then x13.2.Bad else b8))]
noncomputable def m_lockstepref05_Parse (a_s : List Int) : Option (TFunc × Int) :=
  ((m_lockstepref05_Words a_s).bind fun x1 => (chk (((((x1.length : Int) : Int) == (0 : Int)) == false) = true → (InB (0 : Int) x1.length)) (bif (bif (((x1.length : Int) : Int) == (0 : Int)) then true else (!(((x1.getD ((0 : Int)).toNat ([] : List Int)) : List Int) == ([102, 117, 110, 99] : List Int)))) then (some ((⟨([] : List Int), (0 : Int), ([] : List TBlock)⟩ : TFunc), (3 : Int))) else ((m_lockstepref05_Reader_List (⟨x1, (1 : Int), false⟩ : TReader)).bind fun x3 => ((m_lockstepref05_Reader_Int x3.2).bind fun x4 => ((loopO (S := (List (TBlock) × List (List Int) × Int × Bool)) (X := (List (TBlock) × List (List Int) × Int × Bool)) m_lockstepref05_Parse_L1 (([] : List TBlock), x4.2.W, x4.2.At, x4.2.Bad)).bind (fun x16 => (match x16 with | (l9, l10, i11, b12) => ((bif ((bif b12 then true else (decide ((i11 : Int) < (l10.length : Int)))) == false) then m_lockstepref04_May (⟨x3.1, x4.1, l9⟩ : TFunc) else some false).bind fun x18 => (bif (bif (bif b12 then true else (decide ((i11 : Int) < (l10.length : Int)))) then true else (!x18)) then (some ((⟨([] : List Int), (0 : Int), ([] : List TBlock)⟩ : TFunc), (3 : Int))) else (some ((⟨x3.1, x4.1, l9⟩ : TFunc), (0 : Int)))))))))))))
theorem ok_lockstepref05_Parse (a_s : List Int) (r : (TFunc × Int)) (h : m_lockstepref05_Parse a_s = some r) : Spec Tryd.prog 14 [(.str a_s)] [] (.tuple [(.agg (eTFunc r.1)), (.int .i64 r.2)]) [] := by
  refine spec_of_awp (fn := Tryd.f14) Tryd.func14 rfl rfl (by kernel_rfl) (fun Γ hn hΓ => ?_)
  have hn : Γ.n = 79 := hn
  unfold m_lockstepref05_Parse at h
  refine rgs0 (⟨[(0, (.str a_s)), (2, (.ptr 2 0))], [(2, .row 25 Q333)]⟩ : St) hn mix (no_hand hΓ) (by kernel_rfl) ?_
  obtain ⟨x1, hx1, h⟩ := bind_some h
  refine rgs [⟨[], [(20000, 7)], (AV.list 1 eS ([] : List Int) x1 (.own 20000)), [(20000, .tok 1 9 x1.length)]⟩] [] (⟨[(2, (.ptr 2 0)), (4, (.ptr 9 0))], [(2, .row 25 Q333), (7, .tok 1 9 x1.length), (9, .row 76 (Q350 x1))]⟩ : St) [(Spec Tryd.prog 17 [(.str a_s)] [] (AV.list 1 eS ([] : List Int) x1 (.own 20000)) [(20000, .tok 1 9 x1.length)])] hn mix (no_hand hΓ) (by kernel_rfl) ⟨(ok_lockstepref05_Words a_s x1 hx1), trivial⟩ ?_
  refine awp_seq ?_
  obtain ⟨hc2, h⟩ := chk_some h
  refine rgs [] [] (⟨[(2, (.ptr 2 0)), (4, (.ptr 9 0)), (24, (.bool (Q349 x1)))], [(2, .row 25 Q333), (7, .tok 1 9 x1.length), (9, .row 76 (Q350 x1))]⟩ : St) [((Q336 x1) = true → (Q336 x1) = true), ((Q336 x1) = true → (Q336 x1) = true), ((Q336 x1) = true → (Q336 x1) = true), ((Q336 x1) = true → (Q336 x1) = true), ((Q336 x1) = true → (InB (0 : Int) x1.length)), ((Q336 x1) = true → (Q336 x1) = true), ((Q336 x1) = true → (Q336 x1) = true), ((((x1.length : Int) : Int) == (0 : Int)) = false → (Q336 x1) = true)] hn mix (no_hand hΓ) (by kernel_rfl) ⟨(fun hg => hg), (fun hg => hg), (fun hg => hg), (fun hg => hg), (fun hg => (hc2 hg)), (fun hg => hg), (fun hg => hg), gF, trivial⟩ ?_
  refine awp_cond (Q349 x1) (by kernel_rfl) (fun hb => ?_) (fun hb => ?_)
  · replace h := cond_t hb h
    clear hb
    refine rgs [] [(25, (.agg Q335))] Q345 [(AVle (.agg Q333) (.agg Q335))] hn mix (no_hand hΓ) (by kernel_rfl) ⟨(AVle.agg (.cons av_nil (.cons (AVle.refl _) (.cons av_nil .nil)))), trivial⟩ ?_
    refine awp_le (st' := Q344) (Le.trans (le_restrict_eq (st' := Q345) [2, 3] [2] (by kernel_rfl) (no_hand hΓ)) (le_of (.cons (AVle.refl _) (.cons (AVle.refl _) .nil)) (.row (.cons AVle.untag (.cons (AVle.refl _) (.cons AVle.untag .nil))) .nil))) ?_
    refine awp_ret ?_
    refine then_ret ?_
    obtain rfl := Option.some.inj h
    exact ⟨.inl rfl, [], by kernel_rfl⟩
  · replace h := cond_f hb h
    clear hb
    refine awp_skip ?_
    refine then_normal ?_
    refine rgs0 (⟨Q339, [(2, .row 25 Q333), (5, .row 25 Q333), (7, .tok 1 9 x1.length), (9, .row 76 (Q350 x1))]⟩ : St) hn mix (no_hand hΓ) (by kernel_rfl) ?_
    refine awp_seq ?_
    refine awp_le (st' := (⟨Q339, [(2, .row 25 Q333), (5, .row 25 Q333), (9, .row 76 [(AV.list 1 eS ([] : List Int) x1 .none), (.int .i64 (1 : Int)), (.bool false)])]⟩ : St)) (le_restrict_eq [2, 4, 5] [2, 5, 9] (by kernel_rfl) (no_hand hΓ)) ?_
    obtain ⟨x3, hx3, h⟩ := bind_some h
    refine rg [⟨[(9, 30000)], [(20000, 27)], (AV.list 1 eI64 (0 : Int) x3.1 (.own 20000)), [(30000, .row 76 (Q341 x3)), (20000, .tok 1 3 x3.1.length)]⟩] [] (⟨Q339, [(2, .row 25 Q333), (5, .row 25 [(AV.list 1 eI64 (0 : Int) x3.1 (.own 27)), (.int .i64 (0 : Int)), (.slice 0 0 (fun _ => []) .exact)]), (9, .row 76 (Q341 x3)), (27, .tok 1 3 x3.1.length)]⟩ : St) [(Spec Tryd.prog 36 [(.ptr 30000 0)] [(30000, .row 76 [(AV.list 1 eS ([] : List Int) x1 .none), (.int .i64 (1 : Int)), (.bool false)])] (AV.list 1 eI64 (0 : Int) x3.1 (.own 20000)) [(30000, .row 76 (Q341 x3)), (20000, .tok 1 3 x3.1.length)])] hn mix (no_hand hΓ) (by kernel_rfl) ⟨(ok_lockstepref05_Reader_List (⟨x1, (1 : Int), false⟩ : TReader) x3 hx3), trivial⟩ ?_
    refine then_normal ?_
    obtain ⟨x4, hx4, h⟩ := bind_some h
    refine rgs [⟨[(9, 30000)], [], (.int .i64 x4.1), [(30000, .row 76 (Q340 x4))]⟩] [] (Q346 x3 x4) [(Spec Tryd.prog 37 [(.ptr 30000 0)] [(30000, .row 76 (Q341 x3))] (.int .i64 x4.1) [(30000, .row 76 (Q340 x4))])] hn mix (no_hand hΓ) (by kernel_rfl) ⟨(ok_lockstepref05_Reader_Int x3.2 x4 hx4), trivial⟩ ?_
    refine awp_seq ?_
    refine awp_block ?_
    refine awp_le (st' := (fun ((l5, l6, i7, b8) : (List (TBlock) × List (List Int) × Int × Bool)) => (⟨Q339, [(2, .row 25 Q333), (5, .row 25 (Q338 x3 x4 l5)), (9, .row 76 [(AV.list 1 eS ([] : List Int) l6 .none), (.int .i64 i7), (.bool b8)]), (27, .tok 1 3 x3.1.length), (5502, .tok 5 49 l5.length)]⟩ : St)) (([] : List TBlock), x4.2.W, x4.2.At, x4.2.Bad)) (Le.trans (le_restrict_eq (st' := (Q346 x3 x4)) [2, 4, 5] [2, 5, 9, 27] (by kernel_rfl) (no_hand hΓ)) (Le.trans (le_tag_cell (r := 5) (j := 2) (nm := 5502) (sz' := 5) (fun i => eTBlock (([] : List TBlock).getD i (default : TBlock))) 49 rfl rfl (nl rfl) rfl (.inr rfl) (fun h_ => absurd h_ (by decide))) (le_restrict_eq (st' := (⟨Q339, [(2, .row 25 Q333), (5, .row 25 [(AV.list 1 eI64 (0 : Int) x3.1 (.own 27)), (.int .i64 x4.1), (AV.list 5 eTBlock (default : TBlock) ([] : List TBlock) (.own 5502))]), (9, .row 76 (Q340 x4)), (27, .tok 1 3 x3.1.length), (5502, .tok 5 49 (([] : List TBlock).length))]⟩ : St)) [2, 4, 5] [2, 5, 9, 27, 5502] (by kernel_rfl) (no_hand hΓ)))) ?_
    obtain ⟨x16, hx16, h⟩ := bind_some h
    refine awp_loop (fun ((l5, l6, i7, b8) : (List (TBlock) × List (List Int) × Int × Bool)) => (⟨Q339, [(2, .row 25 Q333), (5, .row 25 (Q338 x3 x4 l5)), (9, .row 76 [(AV.list 1 eS ([] : List Int) l6 .none), (.int .i64 i7), (.bool b8)]), (27, .tok 1 3 x3.1.length), (5502, .tok 5 49 l5.length)]⟩ : St)) _ (fun ((l9, l10, i11, b12) : (List (TBlock) × List (List Int) × Int × Bool)) (e : Exit) (st : St) => e = (.exit 0) ∧ Le Γ st (⟨Q339, [(2, .row 25 Q333), (5, .row 25 (Q342 x3 x4 l9)), (9, .row 76 [(AV.list 1 eS ([] : List Int) l10 .none), (.int .i64 i11), (.bool b12)]), (27, .tok 1 3 x3.1.length), (5502, .tok 5 49 l9.length)]⟩ : St)) ?_ hx16 ?_
    · rintro ⟨l5, l6, i7, b8⟩ y h
      unfold m_lockstepref05_Parse_L1 at h
      refine awp_seq ?_
      obtain ⟨x13, hx13, h⟩ := bind_some h
      refine rgs [⟨[(9, 30000)], [], (.str x13.1), [(30000, .row 76 [(AV.list 1 eS ([] : List Int) x13.2.W .none), (.int .i64 x13.2.At), (.bool x13.2.Bad)])]⟩] [] (⟨[(2, (.ptr 2 0)), (4, (.ptr 9 0)), (5, (.ptr 5 0)), (41, (.bool (Q347 b8 x13)))], [(2, .row 25 Q333), (5, .row 25 (Q338 x3 x4 l5)), (9, .row 76 [(.slice 1 (bif ((!b8) == true) then x13.2.W.length else l6.length) (fun i => bif ((!b8) == true) then eS (x13.2.W.getD i ([] : List Int)) else eS (l6.getD i ([] : List Int))) .none), (.int .i64 (bif ((!b8) == true) then x13.2.At else i7)), (.bool (bif ((!b8) == true) then x13.2.Bad else b8))]), (27, .tok 1 3 x3.1.length), (5502, .tok 5 49 l5.length)]⟩ : St) [(((!b8) == true) = true → ((!b8) == true) = true), (((!b8) == true) = true → (Spec Tryd.prog 38 [(.ptr 30000 0)] [(30000, .row 76 [(AV.list 1 eS ([] : List Int) l6 .none), (.int .i64 i7), (.bool b8)])] (.str x13.1) [(30000, .row 76 [(AV.list 1 eS ([] : List Int) x13.2.W .none), (.int .i64 x13.2.At), (.bool x13.2.Bad)])])), (((!b8) == true) = true → ((!b8) == true) = true), ((!b8) = true → ((!b8) == true) = true)] hn mix (no_hand hΓ) (by kernel_rfl) ⟨(fun hg => hg), (fun hg => (ok_lockstepref05_Reader_Next (⟨l6, i7, b8⟩ : TReader) x13 (cond_t hg hx13))), (fun hg => hg), gT, trivial⟩ ?_
      refine awp_le (le_of (st' := (⟨[(2, (.ptr 2 0)), (4, (.ptr 9 0)), (5, (.ptr 5 0)), (41, (.bool (Q347 b8 x13)))], [(2, .row 25 Q333), (5, .row 25 (Q338 x3 x4 l5)), (9, .row 76 [(AV.list 1 eS ([] : List Int) (bif ((!b8) == true) then x13.2.W else l6) .none), (.int .i64 (bif ((!b8) == true) then x13.2.At else i7)), (.bool (bif ((!b8) == true) then x13.2.Bad else b8))]), (27, .tok 1 3 x3.1.length), (5502, .tok 5 49 l5.length)]⟩ : St)) (TmpsLe.refl _) (.same (.same (.row (.cons av_bif_list (.cons (AVle.refl _) (.cons (AVle.refl _) .nil))) (.same (.same .nil)))))) ?_
      refine awp_cond (Q347 b8 x13) (by kernel_rfl) (fun hb => ?_) (fun hb => ?_)
      · replace h := cond_t hb h
        clear hb
        refine awp_skip ?_
        refine then_normal ?_
        refine awp_block ?_
        refine rgs0 (⟨Q339, [(2, .row 25 Q333), (5, .row 25 (Q338 x3 x4 l5)), (9, .row 76 (Q343 b8 x13 l6 i7)), (27, .tok 1 3 x3.1.length), (5502, .tok 5 49 l5.length)]⟩ : St) hn mix (no_hand hΓ) (by kernel_rfl) ?_
        obtain ⟨x14, hx14, h⟩ := bind_some h
        obtain ⟨hc15, h⟩ := chk_some h
        refine rg [⟨[(9, 30000)], [], (.agg (eTBlock x14.1)), [(30000, .row 76 (Q348 x14))]⟩] [(53, (AV.list 5 eTBlock (default : TBlock) (Q334 x14) .exact)), (54, (AV.list 5 eTBlock (default : TBlock) (l5 ++ (Q334 x14)) (.own 5502)))] (⟨Q339, [(2, .row 25 Q333), (5, .row 25 [(AV.list 1 eI64 (0 : Int) x3.1 (.own 27)), (.int .i64 x4.1), (AV.list 5 eTBlock (default : TBlock) (l5 ++ (Q334 x14)) (.own 5502))]), (9, .row 76 (Q348 x14)), (27, .tok 1 3 x3.1.length), (5502, .tok 5 49 ((l5 ++ (Q334 x14)).length))]⟩ : St) [(Spec Tryd.prog 39 [(.ptr 30000 0)] [(30000, .row 76 (Q343 b8 x13 l6 i7))] (.agg (eTBlock x14.1)) [(30000, .row 76 (Q348 x14))]), (AVle (.slice 5 1 (fun i => ([[(AV.list 4 eTPhi (default : TPhi) x14.1.Phis .none), (AV.list 6 eTOp (default : TOp) x14.1.Ops .none), (.int .i64 x14.1.End.Kind), (.int .i64 x14.1.End.Arg), (AV.list 1 eI64 (0 : Int) x14.1.End.To .none)]] : List (List AV)).getD i []) .exact) (AV.list 5 eTBlock (default : TBlock) (Q334 x14) .exact)), (l5.length = l5.length), (l5.length + (Q334 x14).length ≤ room), (AVle (.slice 5 (l5.length + (Q334 x14).length) (appF l5.length (fun i => eTBlock (l5.getD i (default : TBlock))) (fun i => eTBlock ((Q334 x14).getD i (default : TBlock)))) (.own 5502)) (AV.list 5 eTBlock (default : TBlock) (l5 ++ (Q334 x14)) (.own 5502))), (l5.length + (Q334 x14).length = (l5 ++ (Q334 x14)).length)] hn mix (no_hand hΓ) (by kernel_rfl) ⟨(ok_lockstepref05_Reader_block (⟨(bif ((!b8) == true) then x13.2.W else l6), (w64 ((bif ((!b8) == true) then x13.2.At else i7) + (1 : Int))), (bif ((!b8) == true) then x13.2.Bad else b8)⟩ : TReader) x14 hx14), (av_lit rfl (fun i hi => map_get (e := eTBlock) (d := (default : TBlock)) (Q334 x14) i hi)), rfl, hc15, av_app, (len_app _ _), trivial⟩ ?_
        refine block_normal ?_
        obtain rfl := Option.some.inj h
        exact ⟨rfl, Le.refl _ _⟩
      · replace h := cond_f hb h
        clear hb
        refine awp_exit ?_
        refine then_exit ?_
        obtain rfl := Option.some.inj h
        exact ⟨(by intro hh; cases hh), rfl, le_restrict_eq [2, 4, 5] [2, 5, 9, 27, 5502] (by kernel_rfl) (no_hand hΓ)⟩
    · clear hx16
      rcases x16 with ⟨l9, l10, i11, b12⟩
      rintro e st' ⟨rfl, hl17⟩
      refine block_here ?_
      refine then_normal ?_
      refine awp_le hl17 ?_
      refine awp_seq ?_
      obtain ⟨x18, hx18, h⟩ := bind_some h
      refine rgs [⟨[], [], (.bool x18), []⟩] [] (⟨[(2, (.ptr 2 0)), (5, (.ptr 5 0)), (76, (.bool (bif (Q337 b12 i11 l10) then true else (!x18))))], [(2, .row 25 Q333), (5, .row 25 (Q342 x3 x4 l9)), (27, .tok 1 3 x3.1.length), (5502, .tok 5 49 l9.length)]⟩ : St) [((b12 == false) = true → (b12 == false) = true), ((b12 == false) = true → (b12 == false) = true), ((b12 == false) = true → (b12 == false) = true), ((b12 == false) = true → (b12 == false) = true), ((b12 == false) = true → (b12 == false) = true), ((b12 == false) = true → (b12 == false) = true), ((b12 == false) = true → (b12 == false) = true), ((b12 == false) = true → (b12 == false) = true), ((b12 == false) = true → (b12 == false) = true), (b12 = false → (b12 == false) = true), (((Q337 b12 i11 l10) == false) = true → ((Q337 b12 i11 l10) == false) = true), (((Q337 b12 i11 l10) == false) = true → (Spec Tryd.prog 26 [(.agg [(AV.list 1 eI64 (0 : Int) x3.1 .none), (.int .i64 x4.1), (AV.list 5 eTBlock (default : TBlock) l9 .none)])] [] (.bool x18) [])), (((Q337 b12 i11 l10) == false) = true → ((Q337 b12 i11 l10) == false) = true), ((Q337 b12 i11 l10) = false → ((Q337 b12 i11 l10) == false) = true)] hn mix (no_hand hΓ) (by kernel_rfl) ⟨(fun hg => hg), (fun hg => hg), (fun hg => hg), (fun hg => hg), (fun hg => hg), (fun hg => hg), (fun hg => hg), (fun hg => hg), (fun hg => hg), gF, (fun hg => hg), (fun hg => (ok_lockstepref04_May (⟨x3.1, x4.1, l9⟩ : TFunc) x18 (cond_t hg hx18))), (fun hg => hg), gF, trivial⟩ ?_
      refine awp_cond (bif (Q337 b12 i11 l10) then true else (!x18)) (by kernel_rfl) (fun hb => ?_) (fun hb => ?_)
      · replace h := cond_t hb h
        clear hb
        refine rgs [] [(77, (.agg Q335))] Q345 [(AVle (.agg Q333) (.agg Q335))] hn mix (no_hand hΓ) (by kernel_rfl) ⟨(AVle.agg (.cons av_nil (.cons (AVle.refl _) (.cons av_nil .nil)))), trivial⟩ ?_
        refine awp_le (st' := Q344) (Le.trans (le_restrict_eq (st' := Q345) [2, 3] [2] (by kernel_rfl) (no_hand hΓ)) (le_of (.cons (AVle.refl _) (.cons (AVle.refl _) .nil)) (.row (.cons AVle.untag (.cons (AVle.refl _) (.cons AVle.untag .nil))) .nil))) ?_
        refine awp_ret ?_
        refine then_ret ?_
        obtain rfl := Option.some.inj h
        exact ⟨.inl rfl, [], by kernel_rfl⟩
      · replace h := cond_f hb h
        clear hb
        refine awp_skip ?_
        refine then_normal ?_
        refine rgs0 (⟨[(2, (.ptr 2 0)), (3, (.int .i64 (0 : Int)))], [(2, .row 25 (Q342 x3 x4 l9)), (27, .tok 1 3 x3.1.length), (5502, .tok 5 49 l9.length)]⟩ : St) hn mix (no_hand hΓ) (by kernel_rfl) ?_
        refine awp_ret ?_
        obtain rfl := Option.some.inj h
        exact ⟨.inl rfl, [], by kernel_rfl⟩

noncomputable def m_lockstepref05_Kind (a_s : List Int) : Option (Int × Bool) :=
  ((m_lockstepref05_kinds).bind fun x1 => ((m_lockstepref05_find x1 a_s).bind fun x2 => (bif (decide ((x2 : Int) < (0 : Int))) then (some ((0 : Int), false)) else (some (x2, true)))))
theorem ok_lockstepref05_Kind (a_s : List Int) (r : (Int × Bool)) (h : m_lockstepref05_Kind a_s = some r) : Spec Tryd.prog 16 [(.str a_s)] [] (.tuple [(.int .i64 r.1), (.bool r.2)]) [] := by
  refine spec_of_awp (fn := Tryd.f16) Tryd.func16 rfl rfl (by kernel_rfl) (fun Γ hn hΓ => ?_)
  have hn : Γ.n = 11 := hn
  unfold m_lockstepref05_Kind at h
  refine rgs0 (⟨[(0, (.str a_s))], []⟩ : St) hn mix (no_hand hΓ) (by kernel_rfl) ?_
  obtain ⟨x1, hx1, h⟩ := bind_some h
  obtain ⟨x2, hx2, h⟩ := bind_some h
  refine rgs [⟨[], [(20000, 5)], (AV.list 1 eS ([] : List Int) x1 (.own 20000)), [(20000, .tok 1 9 x1.length)]⟩, ⟨[], [], (.int .i64 x2), []⟩] [] (⟨[(4, (.int .i64 x2))], []⟩ : St) [(Spec Tryd.prog 29 [] [] (AV.list 1 eS ([] : List Int) x1 (.own 20000)) [(20000, .tok 1 9 x1.length)]), (Spec Tryd.prog 40 [(AV.list 1 eS ([] : List Int) x1 .none), (.str a_s)] [] (.int .i64 x2) [])] hn mix (no_hand hΓ) (by kernel_rfl) ⟨(ok_lockstepref05_kinds  x1 hx1), (ok_lockstepref05_find x1 a_s x2 hx2), trivial⟩ ?_
  refine awp_seq ?_
  refine rgs0 (⟨[(4, (.int .i64 x2)), (9, (.bool (decide ((x2 : Int) < (0 : Int)))))], []⟩ : St) hn mix (no_hand hΓ) (by kernel_rfl) ?_
  refine awp_cond (decide ((x2 : Int) < (0 : Int))) (by kernel_rfl) (fun hb => ?_) (fun hb => ?_)
  · replace h := cond_t hb h
    clear hb
    refine rgs0 (⟨[(2, (.int .i64 (0 : Int))), (3, (.bool false))], []⟩ : St) hn mix (no_hand hΓ) (by kernel_rfl) ?_
    refine awp_ret ?_
    refine then_ret ?_
    obtain rfl := Option.some.inj h
    exact ⟨.inl rfl, [], by kernel_rfl⟩
  · replace h := cond_f hb h
    clear hb
    refine awp_skip ?_
    refine then_normal ?_
    refine rgs0 (⟨[(2, (.int .i64 x2)), (3, (.bool true))], []⟩ : St) hn mix (no_hand hΓ) (by kernel_rfl) ?_
    refine awp_ret ?_
    obtain rfl := Option.some.inj h
    exact ⟨.inl rfl, [], by kernel_rfl⟩
end Go.Proofs.YtcddajbcbkbipaaDoor

namespace Go.Proofs.YtcddajbcbkbipaaDoor
open Go Go.RowKit
set_option linter.unusedVariables false
set_option maxRecDepth 100000
set_option maxHeartbeats 2000000

end Go.Proofs.YtcddajbcbkbipaaDoor

namespace Go.Proofs.YtcddajbcbkbipaaDoor
open Go Go.RowKit

/-- A slice of numbers that came in. -/
theorem rep_row {k : IntKind} {e : Int → List AV} {d : Int} (he : ∀ x, e x = [.int k x]) {w : World} {a : Option Addr} {len cap : Nat} {zs : List Int}
    (h : (a = none ∧ len = 0 ∧ cap = 0 ∧ zs = []) ∨ ∃ x, a = some x ∧ len ≤ cap ∧ cap ≤ maxLen ∧ zs.length = cap ∧ (∀ i, i < zs.length → w.cell? (x.add i) = some (.int k (zs.getD i 0))) ∧ ∀ n ∈ zs, (Lit.int k n).wf = true) :
    Rep (fun b o => ∃ u, w.cell? ⟨b, o, none⟩ = some u) (look []) (fun _ => none) w (.slice a len cap) (AV.list 1 e d (zs.take len) .none) := by
  rcases h with ⟨rfl, rfl, rfl, rfl⟩ | ⟨x, rfl, hl, hm, hz, hc, _⟩
  · exact .val _ _ (.slice none 0 0 1 _ (fun _ => undef) (Nat.le_refl _) (by simp) (fun h => by simp at h) (fun _ => rfl) (fun j hj => by simp at hj) (fun i hi => by simp at hi) (fun i c hi => by simp at hi))
  · have hlen : (zs.take len).length = len := by simp; omega
    have hcell : x.spot = none → ∀ j, j < zs.length → w.cell? ⟨x.block, x.off + j, none⟩ = some (.int k (zs.getD j 0)) := fun hs j hj => by
      have := hc j hj
      rw [Addr.add] at this
      split at this
      · rename_i h0
        subst h0
        obtain ⟨b, o, s⟩ := x
        simp only at hs
        subst hs
        exact this
      · exact this
    unfold AV.list
    rw [hlen]
    refine .val _ _ (.slice (some x) len cap 1 _ (fun j => .int k (zs.getD j 0)) hl hm (fun h => ?_) (fun h => by cases h) (fun j _ => rfl) (fun i _ => by rw [he]; rfl) (fun i c hi hcc => ?_))
    · have hs : x.spot = none := by
        have := hc 0 (by omega)
        have h2 := World.cell?_spot this
        simpa [Addr.add] using h2
      exact ⟨x, rfl, hs, fun j hj => ⟨_, hcell hs j (by omega)⟩, fun j hj => hcell hs j (by omega)⟩
    · obtain rfl : c = 0 := by omega
      rw [he]
      have e1 : (zs.take len).getD i d = zs.getD i 0 := by
        have : i < zs.length := by omega
        simp [List.getD, hi, this]
      rw [e1]
      simp only [Nat.mul_one, Nat.add_zero]
      exact .int _ _
theorem row_wf {k : IntKind} {w : World} {a : Option Addr} {len cap : Nat} {zs : List Int}
    (h : (a = none ∧ len = 0 ∧ cap = 0 ∧ zs = []) ∨ ∃ x, a = some x ∧ len ≤ cap ∧ cap ≤ maxLen ∧ zs.length = cap ∧ (∀ i, i < zs.length → w.cell? (x.add i) = some (.int k (zs.getD i 0))) ∧ ∀ n ∈ zs, (Lit.int k n).wf = true) :
    ∀ n ∈ zs.take len, (Lit.int k n).wf = true := fun n hn => by
  have hn := List.mem_of_mem_take hn
  rcases h with ⟨_, _, _, rfl⟩ | ⟨_, _, _, _, _, _, h⟩
  · cases hn
  · exact h n hn
theorem wf_u64 {n : Int} (h : (Lit.int .u64 n).wf = true) : 0 ≤ n ∧ n < 18446744073709551616 := by simp [Lit.wf, IntKind.min, IntKind.max, IntKind.bits, IntKind.signed] at h; omega
theorem wf_u32 {n : Int} (h : (Lit.int .u32 n).wf = true) : 0 ≤ n ∧ n < 4294967296 := by simp [Lit.wf, IntKind.min, IntKind.max, IntKind.bits, IntKind.signed] at h; omega
theorem wf_u8 {n : Int} (h : (Lit.int .u8 n).wf = true) : 0 ≤ n ∧ n < 256 := by simp [Lit.wf, IntKind.min, IntKind.max, IntKind.bits, IntKind.signed] at h; omega
theorem wf_i64 {n : Int} (h : (Lit.int .i64 n).wf = true) : -9223372036854775808 ≤ n ∧ n < 9223372036854775808 := by simp [Lit.wf, IntKind.min, IntKind.max, IntKind.bits, IntKind.signed] at h; omega
theorem wf_u16 {n : Int} (h : (Lit.int .u16 n).wf = true) : 0 ≤ n ∧ n < 65536 := by simp [Lit.wf, IntKind.min, IntKind.max, IntKind.bits, IntKind.signed] at h; omega
end Go.Proofs.YtcddajbcbkbipaaDoor

namespace Go.Proofs.YtcddajbcbkbipaaDoor
open Go Go.RowKit
set_option linter.unusedVariables false

/-- The cells that there are. -/
abbrev Iall (w : World) : Nat → Nat → Prop := fun b o => ∃ u, w.cell? ⟨b, o, none⟩ = some u
structure CRep (w : World) (cs : List Value) (avs : List AV) : Prop where
  len : cs.length = avs.length
  one : ∀ j, j < avs.length → (cs.getD j undef).oneCell' = true
  rep : ∀ j, j < avs.length → RepV (Iall w) w (cs.getD j undef) (avs.getD j .any)
structure Opens (P : Program) (t : TypeId) {α : Type} (e : α → List AV) (ok : α → Prop) : Prop where
  get : ∀ {H : Type} {enc : TypeId × Value → H} {w : World} {base : Nat} {spare : Nat → Bool} {held : Bool} {fuel : Nat} {cs : List Value} {x : DataW H × List MemPlace},
    DataW.trod enc P w base spare held fuel t cs = some x → ∃ a, ok a ∧ CRep w cs (e a)

theorem crep_one {w : World} {v : Value} {x : AV} (h1 : v.oneCell' = true) (h : RepV (Iall w) w v x) : CRep w [v] [x] :=
  ⟨rfl, fun j hj => (by
      have hj0 : j = 0 := by simpa using hj
      subst hj0
      exact h1), fun j hj => (by
      have hj0 : j = 0 := by simpa using hj
      subst hj0
      exact h)⟩
theorem opens_int {P : Program} {t : TypeId} {k : IntKind} {e : Int → List AV} (ht : P.underlying t = some (.int k)) (he : ∀ n, e n = [.int k n]) : Opens P t e (fun n => (Lit.int k n).wf = true) := by
  refine ⟨?_⟩
  intro H enc w base spare held fuel cs x h
  obtain ⟨n, rfl, rfl, hw⟩ := DataW.trod_int ht h
  exact ⟨n, hw, by rw [he]; exact crep_one rfl (.int _ _)⟩
theorem opens_bool {P : Program} {t : TypeId} {e : Bool → List AV} (ht : P.underlying t = some .bool) (he : ∀ n, e n = [.bool n]) : Opens P t e (fun _ => True) := by
  refine ⟨?_⟩
  intro H enc w base spare held fuel cs x h
  obtain ⟨n, rfl, rfl⟩ := DataW.trod_bool ht h
  exact ⟨n, trivial, by rw [he]; exact crep_one rfl (.bool _)⟩
theorem opens_string {P : Program} {t : TypeId} {e : List Int → List AV} (ht : P.underlying t = some .string) (he : ∀ n, e n = [.str n]) : Opens P t e (fun s => (∀ x ∈ s, 0 ≤ x ∧ x < 256) ∧ s.length ≤ maxLen) := by
  refine ⟨?_⟩
  intro H enc w base spare held fuel cs x h
  obtain ⟨s, rfl, rfl, hs⟩ := DataW.trod_string ht h
  exact ⟨bytesI s, ⟨bytesI_byte s, by rw [bytesI_length]; exact hs⟩, by rw [he]; exact crep_one rfl (.str _)⟩

theorem cells?_get {w : World} {base : Nat} {a : Addr} {n : Nat} {cs : List Value} (h : w.cells? base a n = some cs) : cs.length = n ∧ ∀ i, i < n → w.cell? (a.add i) = some (cs.getD i undef) := by
  unfold World.cells? at h
  split at h
  · have hl := mapM_some_length h
    simp at hl
    refine ⟨hl, fun i hi => ?_⟩
    have := mapM_some_get h i i (by simp [hi])
    rw [this]
    simp [List.getD, show i < cs.length by omega]
  · cases h

theorem opens_slice {P : Program} {t el : TypeId} {α : Type} {e : α → List AV} {ok : α → Prop} {sz : Nat} {d : α} {e' : List α → List AV} (ht : P.underlying t = some (.slice el)) (hs : P.cellsOf el = sz) (h1 : 1 ≤ sz) (he : Opens P el e ok) (hlen : ∀ a, (e a).length = sz)
    (he' : ∀ l, e' l = [AV.list sz e d l .none]) : Opens P t e' (fun l => (∀ a ∈ l, ok a) ∧ l.length ≤ maxLen) := by
  refine ⟨?_⟩
  intro H enc w base spare held fuel cs x h
  rcases DataW.trod_slice ht h with ⟨rfl, rfl⟩ | ⟨a, len, cap, elems, rest, n, _, rfl, rfl, hb, hl, hm, hlen2, hel, _⟩
  · exact ⟨[], ⟨by simp, by simp⟩, by rw [he']; exact crep_one rfl (.slice none 0 0 sz _ (fun _ => undef) (Nat.le_refl _) (by simp) (fun h => by simp at h) (fun _ => rfl) (fun j hj => by simp at hj) (fun i hi => by simp at hi) (fun i c hi => by simp at hi))⟩
  · have each : ∀ i : Fin len, ∃ b, ok b ∧ ∃ cs, w.cells? base (a.add (i.1 * sz)) sz = some cs ∧ CRep w cs (e b) := fun ⟨i, hi⟩ => by
      have := hel i hi
      rw [hs, List.getElem?_eq_getElem (by omega), Option.bind_eq_some_iff] at this
      obtain ⟨cs, hcs, htr⟩ := this
      obtain ⟨b, hb, hr⟩ := he.get htr
      exact ⟨b, hb, cs, hcs, hr⟩
    let f : Fin len → α := fun i => (each i).choose
    have hf : ∀ i, ok (f i) ∧ ∃ cs, w.cells? base (a.add (i.1 * sz)) sz = some cs ∧ CRep w cs (e (f i)) := fun i => (each i).choose_spec
    have hlf : (List.ofFn f).length = len := by simp
    refine ⟨List.ofFn f, ⟨fun b hb => ?_, by simp; omega⟩, ?_⟩
    · obtain ⟨i, rfl⟩ := List.mem_ofFn.1 hb
      exact (hf i).1
    rw [he']
    refine crep_one rfl ?_
    have hcell0 : ∀ i (hi : i < len), ∀ c, c < sz → ∃ u, w.cell? ((a.add (i * sz)).add c) = some u ∧ u.oneCell' = true ∧ RepV (Iall w) w u ((e (f ⟨i, hi⟩)).getD c .any) := fun i hi c hc => by
      obtain ⟨_, cs, hcs, hr⟩ := hf ⟨i, hi⟩
      obtain ⟨hl, hg⟩ := cells?_get hcs
      exact ⟨_, hg c hc, hr.one c (by rw [hlen]; exact hc), hr.rep c (by rw [hlen]; exact hc)⟩
    have hspot : 0 < len → a.spot = none := fun hp => by
      obtain ⟨u, hu, _⟩ := hcell0 0 hp 0 h1
      have h2 := World.cell?_spot hu
      simpa [Addr.add] using h2
    have hcell : ∀ i (hi : i < len), ∀ c, c < sz → ∃ u, w.cell? ⟨a.block, a.off + (i * sz + c), none⟩ = some u ∧ u.oneCell' = true ∧ RepV (Iall w) w u ((e (f ⟨i, hi⟩)).getD c .any) := fun i hi c hc => by
      obtain ⟨u, hu, h1, h2⟩ := hcell0 i hi c hc
      have hsp := hspot (by omega)
      rw [add_none hsp, Addr.add_lit] at hu
      exact ⟨u, by rw [← Nat.add_assoc]; exact hu, h1, h2⟩
    have hdm : ∀ j, j < len * sz → ∃ i c, i < len ∧ c < sz ∧ j = i * sz + c := fun j hj => by
      refine ⟨j / sz, j % sz, (Nat.div_lt_iff_lt_mul (by omega)).2 hj, Nat.mod_lt _ (by omega), ?_⟩
      rw [Nat.mul_comm]; exact (Nat.div_add_mod j sz).symm
    unfold AV.list
    rw [hlf]
    refine .slice (some a) len cap sz _ (fun j => (w.cell? ⟨a.block, a.off + j, none⟩).getD undef) hl hm (fun hp => ⟨a, rfl, hspot hp, fun j hj => ?_, fun j hj => ?_⟩) (fun h => by cases h) (fun j hj => ?_) (fun i hi => hlen _) (fun i c hi hc => ?_)
    · obtain ⟨i, c, hi, hc, rfl⟩ := hdm j hj
      obtain ⟨u, hu, _⟩ := hcell i hi c hc
      exact ⟨u, hu⟩
    · obtain ⟨i, c, hi, hc, rfl⟩ := hdm j hj
      obtain ⟨u, hu, _⟩ := hcell i hi c hc
      rw [hu]; rfl
    · obtain ⟨i, c, hi, hc, rfl⟩ := hdm j hj
      obtain ⟨u, hu, h1, _⟩ := hcell i hi c hc
      simp only [hu]; exact h1
    · obtain ⟨u, hu, _, h2⟩ := hcell i hi c hc
      have e1 : (List.ofFn f).getD i d = f ⟨i, hi⟩ := by simp [List.getD, hi]
      rw [e1, hu]
      exact h2

/-- Fields, from a place on. -/
structure OpensF (P : Program) (fs : List Field) (off N : Nat) {α : Type} (e : α → List AV) (ok : α → Prop) : Prop where
  get : ∀ {H : Type} {enc : TypeId × Value → H} {w : World} {base : Nat} {spare : Nat → Bool} {held : Bool} {n : Nat} {cs : List Value}, cs.length = N →
    (∀ f ∈ fs, ∃ x, DataW.trod enc P w base spare held n f.type ((cs.drop f.offset).take (P.cellsOf f.type)) = some x) → ∃ a, ok a ∧ CRep w (cs.drop off) (e a)
theorem opensF_nil {P : Program} {N : Nat} : OpensF P [] N N (fun _ : Unit => []) (fun _ => True) := by
  refine ⟨?_⟩
  intro H enc w base spare held n cs hN _
  rw [List.drop_eq_nil_of_le (by omega)]
  exact ⟨(), trivial, rfl, (fun j hj => by simp at hj), (fun j hj => by simp at hj)⟩
theorem opensF_cons {P : Program} {f : Field} {fs : List Field} {off sz N : Nat} {α β : Type} {e : α → List AV} {ok : α → Prop} {e' : β → List AV} {ok' : β → Prop} (hoff : f.offset = off) (hsz : P.cellsOf f.type = sz) (hle : off + sz ≤ N)
    (h : Opens P f.type e ok) (h' : OpensF P fs (off + sz) N e' ok') : OpensF P (f :: fs) off N (fun p : α × β => e p.1 ++ e' p.2) (fun p => ok p.1 ∧ ok' p.2) := by
  refine ⟨?_⟩
  intro H enc w base spare held n cs hN hall
  obtain ⟨x, hx⟩ := hall f (by simp)
  rw [hoff, hsz] at hx
  obtain ⟨a, ha, hr⟩ := h.get hx
  obtain ⟨b, hb, hr'⟩ := h'.get hN (fun g hg => hall g (by simp [hg]))
  have hl : (e a).length = sz := by rw [← hr.len]; simp; omega
  have hl' : (e' b).length = N - (off + sz) := by rw [← hr'.len]; simp; omega
  have hsplit : cs.drop off = (cs.drop off).take sz ++ cs.drop (off + sz) := by rw [← List.drop_drop]; exact (List.take_append_drop sz _).symm
  have hl2 : ((cs.drop off).take sz).length = sz := by simp; omega
  refine ⟨(a, b), ⟨ha, hb⟩, ?_, fun j hj => ?_, fun j hj => ?_⟩
  · simp [hl, hl']; omega
  · rw [hsplit]
    replace hj : j < (e a ++ e' b).length := hj
    show _
    by_cases hlt : j < sz
    · have := hr.one j (by omega)
      rwa [List.getD, List.getElem?_append_left (by omega)]
    · have := hr'.one (j - sz) (by simp at hj; omega)
      rwa [List.getD, List.getElem?_append_right (by omega), hl2]
  · rw [hsplit]
    replace hj : j < (e a ++ e' b).length := hj
    show RepV (Iall w) w _ ((e a ++ e' b).getD j .any)
    by_cases hlt : j < sz
    · have := hr.rep j (by omega)
      rwa [List.getD, List.getElem?_append_left (by omega), List.getD, List.getElem?_append_left (by omega)]
    · have := hr'.rep (j - sz) (by simp at hj; omega)
      rwa [List.getD, List.getElem?_append_right (by omega), hl2, List.getD, List.getElem?_append_right (by omega), hl]
theorem opens_struct {P : Program} {t : TypeId} {fs : Array Field} {N : Nat} {α : Type} {e : α → List AV} {ok : α → Prop} (ht : P.underlying t = some (.struct fs)) (hN : P.cellsOf t = N) (h : OpensF P fs.toList 0 N e ok) : Opens P t e ok := by
  refine ⟨?_⟩
  intro H enc w base spare held fuel cs x hx
  obtain ⟨xs, n, _, _, hl, hxl, hall⟩ := DataW.trod_struct ht hx
  have := h.get (n := n) (hl.trans hN) (enc := enc) (w := w) (base := base) (spare := spare) (held := held) (fun f hf => by
    obtain ⟨i, hi, rfl⟩ := List.mem_iff_getElem.1 hf
    have hi' : i < fs.size := by simpa using hi
    have := hall i fs.toList[i] (by simp [hi'])
    rw [List.getElem?_eq_getElem (by omega)] at this
    exact ⟨_, this⟩)
  simpa using this
theorem Opens.to {P : Program} {t : TypeId} {α β : Type} {e : α → List AV} {ok : α → Prop} (h : Opens P t e ok) {e' : β → List AV} {ok' : β → Prop} (g : α → β) (he : ∀ a, e' (g a) = e a) (hok : ∀ a, ok a → ok' (g a)) : Opens P t e' ok' := by
  refine ⟨?_⟩
  intro H enc w base spare held fuel cs x hx
  obtain ⟨a, ha, hr⟩ := h.get hx
  exact ⟨g a, hok a ha, by rw [he]; exact hr⟩

/-! ### Arguments -/
theorem arg_one {P : Program} {t : TypeId} {α : Type} {e : α → List AV} {ok : α → Prop} (h : Opens P t e ok) {x : α → AV} (he : ∀ a, e a = [x a]) {H : Type} {enc : TypeId × Value → H} {w : World} {base : Nat} {spare : Nat → Bool} {held : Bool} {v : Value} {d : DataW H} {ps : List MemPlace}
    (hv : v.cells = #[v]) (hd : DataW.Trod enc P w base spare held t v d ps) : ∃ a, ok a ∧ RepV (Iall w) w v (x a) := by
  obtain ⟨fuel, hf⟩ := hd
  obtain ⟨a, ha, hr⟩ := h.get hf
  refine ⟨a, ha, ?_⟩
  have := hr.rep 0 (by simp [he])
  simpa [hv, he] using this
theorem arg_agg {P : Program} {t : TypeId} {α : Type} {e : α → List AV} {ok : α → Prop} (h : Opens P t e ok) {H : Type} {enc : TypeId × Value → H} {w : World} {base : Nat} {spare : Nat → Bool} {held : Bool} {cs : Array Value} {d : DataW H} {ps : List MemPlace}
    (hd : DataW.Trod enc P w base spare held t (.agg cs) d ps) : ∃ a, ok a ∧ RepV (Iall w) w (.agg cs) (.agg (e a)) := by
  obtain ⟨fuel, hf⟩ := hd
  obtain ⟨a, ha, hr⟩ := h.get hf
  have e1 : (Value.agg cs).cells.toList = cs.toList := rfl
  rw [e1] at hr
  have e2 : ∀ j, cs.toList.getD j undef = cs.getD j undef := fun j => by simp [Array.getD_eq_getD_getElem?, List.getD]
  refine ⟨a, ha, .agg _ _ (by simpa using hr.len) (fun j hj => ?_) (fun j hj => ?_)⟩
  · rw [← e2]; exact hr.one j hj
  · rw [← e2]; exact hr.rep j hj
end Go.Proofs.YtcddajbcbkbipaaDoor

namespace Go.Proofs.YtcddajbcbkbipaaDoor
open Go Go.RowKit
def eLU8 (x : List (Int)) : List AV := [(AV.list 1 eU8 (0 : Int) x .none)]
def okI64 (n : Int) : Prop := (Lit.int .i64 n).wf = true
theorem op_3 : Opens Tryd.prog 3 eI64 okI64 := opens_int Tryd.underlying3 (fun _ => rfl)
def okLI64 (l : List (Int)) : Prop := (∀ a ∈ l, okI64 a) ∧ l.length ≤ maxLen
theorem op_22 : Opens Tryd.prog 22 eLI64 okLI64 := opens_slice (d := (0 : Int)) Tryd.underlying22 (by kernel_rfl) (by decide) op_3 (fun _ => rfl) (fun _ => rfl)
def okTPhi (a : TPhi) : Prop := okI64 a.Bits ∧ okI64 a.Dst ∧ okLI64 a.From ∧ okLI64 a.Args ∧ True
theorem op_53 : Opens Tryd.prog 53 eTPhi okTPhi := Opens.to (opens_struct (N := 4) Tryd.underlying53 (by kernel_rfl) (opensF_cons (off := 0) (sz := 1) (N := 4) rfl (by kernel_rfl) (by decide) op_3 (opensF_cons (off := 1) (sz := 1) (N := 4) rfl (by kernel_rfl) (by decide) op_3 (opensF_cons (off := 2) (sz := 1) (N := 4) rfl (by kernel_rfl) (by decide) op_22 (opensF_cons (off := 3) (sz := 1) (N := 4) rfl (by kernel_rfl) (by decide) op_22 opensF_nil))))) (fun p => ⟨p.1, p.2.1, p.2.2.1, p.2.2.2.1⟩) (fun _ => rfl) (fun _ h => h)
def okLTPhi (l : List (TPhi)) : Prop := (∀ a ∈ l, okTPhi a) ∧ l.length ≤ maxLen
theorem op_45 : Opens Tryd.prog 45 eLTPhi okLTPhi := opens_slice (d := (default : TPhi)) Tryd.underlying45 (by kernel_rfl) (by decide) op_53 (fun _ => rfl) (fun _ => rfl)
def okU64 (n : Int) : Prop := (Lit.int .u64 n).wf = true
theorem op_41 : Opens Tryd.prog 41 eU64 okU64 := opens_int Tryd.underlying41 (fun _ => rfl)
def okTOp (a : TOp) : Prop := okI64 a.Kind ∧ okI64 a.Bits ∧ okI64 a.Lanes ∧ okI64 a.Dst ∧ okLI64 a.Args ∧ okU64 a.Imm ∧ True
theorem op_43 : Opens Tryd.prog 43 eTOp okTOp := Opens.to (opens_struct (N := 6) Tryd.underlying43 (by kernel_rfl) (opensF_cons (off := 0) (sz := 1) (N := 6) rfl (by kernel_rfl) (by decide) op_3 (opensF_cons (off := 1) (sz := 1) (N := 6) rfl (by kernel_rfl) (by decide) op_3 (opensF_cons (off := 2) (sz := 1) (N := 6) rfl (by kernel_rfl) (by decide) op_3 (opensF_cons (off := 3) (sz := 1) (N := 6) rfl (by kernel_rfl) (by decide) op_3 (opensF_cons (off := 4) (sz := 1) (N := 6) rfl (by kernel_rfl) (by decide) op_22 (opensF_cons (off := 5) (sz := 1) (N := 6) rfl (by kernel_rfl) (by decide) op_41 opensF_nil))))))) (fun p => ⟨p.1, p.2.1, p.2.2.1, p.2.2.2.1, p.2.2.2.2.1, p.2.2.2.2.2.1⟩) (fun _ => rfl) (fun _ h => h)
def okLTOp (l : List (TOp)) : Prop := (∀ a ∈ l, okTOp a) ∧ l.length ≤ maxLen
theorem op_44 : Opens Tryd.prog 44 eLTOp okLTOp := opens_slice (d := (default : TOp)) Tryd.underlying44 (by kernel_rfl) (by decide) op_43 (fun _ => rfl) (fun _ => rfl)
def okTEnd (a : TEnd) : Prop := okI64 a.Kind ∧ okI64 a.Arg ∧ okLI64 a.To ∧ True
theorem op_47 : Opens Tryd.prog 47 eTEnd okTEnd := Opens.to (opens_struct (N := 3) Tryd.underlying47 (by kernel_rfl) (opensF_cons (off := 0) (sz := 1) (N := 3) rfl (by kernel_rfl) (by decide) op_3 (opensF_cons (off := 1) (sz := 1) (N := 3) rfl (by kernel_rfl) (by decide) op_3 (opensF_cons (off := 2) (sz := 1) (N := 3) rfl (by kernel_rfl) (by decide) op_22 opensF_nil)))) (fun p => ⟨p.1, p.2.1, p.2.2.1⟩) (fun _ => rfl) (fun _ h => h)
def okTBlock (a : TBlock) : Prop := okLTPhi a.Phis ∧ okLTOp a.Ops ∧ okTEnd a.End ∧ True
theorem op_49 : Opens Tryd.prog 49 eTBlock okTBlock := Opens.to (opens_struct (N := 5) Tryd.underlying49 (by kernel_rfl) (opensF_cons (off := 0) (sz := 1) (N := 5) rfl (by kernel_rfl) (by decide) op_45 (opensF_cons (off := 1) (sz := 1) (N := 5) rfl (by kernel_rfl) (by decide) op_44 (opensF_cons (off := 2) (sz := 3) (N := 5) rfl (by kernel_rfl) (by decide) op_47 opensF_nil)))) (fun p => ⟨p.1, p.2.1, p.2.2.1⟩) (fun _ => rfl) (fun _ h => h)
def okLTBlock (l : List (TBlock)) : Prop := (∀ a ∈ l, okTBlock a) ∧ l.length ≤ maxLen
theorem op_23 : Opens Tryd.prog 23 eLTBlock okLTBlock := opens_slice (d := (default : TBlock)) Tryd.underlying23 (by kernel_rfl) (by decide) op_49 (fun _ => rfl) (fun _ => rfl)
def okTFunc (a : TFunc) : Prop := okLI64 a.Params ∧ okI64 a.Ret ∧ okLTBlock a.Blocks ∧ True
theorem op_25 : Opens Tryd.prog 25 eTFunc okTFunc := Opens.to (opens_struct (N := 3) Tryd.underlying25 (by kernel_rfl) (opensF_cons (off := 0) (sz := 1) (N := 3) rfl (by kernel_rfl) (by decide) op_22 (opensF_cons (off := 1) (sz := 1) (N := 3) rfl (by kernel_rfl) (by decide) op_3 (opensF_cons (off := 2) (sz := 1) (N := 3) rfl (by kernel_rfl) (by decide) op_23 opensF_nil)))) (fun p => ⟨p.1, p.2.1, p.2.2.1⟩) (fun _ => rfl) (fun _ h => h)
def okS (s : List Int) : Prop := (∀ x ∈ s, 0 ≤ x ∧ x < 256) ∧ s.length ≤ maxLen
theorem op_9 : Opens Tryd.prog 9 eS okS := opens_string Tryd.underlying9 (fun _ => rfl)
def okU8 (n : Int) : Prop := (Lit.int .u8 n).wf = true
theorem op_5 : Opens Tryd.prog 5 eU8 okU8 := opens_int Tryd.underlying5 (fun _ => rfl)
def okLU8 (l : List (Int)) : Prop := (∀ a ∈ l, okU8 a) ∧ l.length ≤ maxLen
theorem op_39 : Opens Tryd.prog 39 eLU8 okLU8 := opens_slice (d := (0 : Int)) Tryd.underlying39 (by kernel_rfl) (by decide) op_5 (fun _ => rfl) (fun _ => rfl)
end Go.Proofs.YtcddajbcbkbipaaDoor

namespace Go.Proofs.YtcddajbcbkbipaaDoor
open Go Go.RowKit
set_option linter.unusedVariables false
set_option linter.unusedSimpArgs false

def numB (n : Int) : Bool := decide (0 ≤ n) && decide (n ≤ 2147483647)
def listB (l : List Int) : Bool := l.all numB && decide (l.length ≤ 64)
def phiB (p : TPhi) : Bool := numB p.Bits && numB p.Dst && listB p.From && listB p.Args
def opB (o : TOp) : Bool := numB o.Kind && numB o.Bits && numB o.Lanes && numB o.Dst && listB o.Args
def endB (e : TEnd) : Bool := numB e.Kind && numB e.Arg && listB e.To
def blockB (b : TBlock) : Bool := b.Phis.all phiB && b.Ops.all opB && endB b.End
def sizeB (b : TBlock) : Nat := b.Phis.length + b.Ops.length + 1
/-- How many there are; as a word. -/
def sizeN (f : TFunc) : Nat := (f.Blocks.map sizeB).sum
def sizeW (f : TFunc) : Int := w64 (sizeN f)
def mayF (f : TFunc) : Bool := decide (1 ≤ f.Blocks.length) && decide (f.Blocks.length ≤ 64) && decide (f.Params.length ≤ 16) && listB f.Params && numB f.Ret && decide (sizeW f ≤ 512) && f.Blocks.all blockB
def entP (p : TPhi) : Nat := 1 + p.From.length + p.Args.length
def entO (o : TOp) : Nat := 1 + o.Args.length
def entB (b : TBlock) : Nat := 1 + b.End.To.length + (b.Phis.map entP).sum + (b.Ops.map entO).sum
def entF (f : TFunc) : Nat := f.Params.length + (f.Blocks.map entB).sum

theorem maxLen_eq : maxLen = 9223372036854775807 := rfl
/-- What comes in: lengths that there are; Imm a word. -/
structure InF (f : TFunc) : Prop where
  params : f.Params.length ≤ maxLen
  blocks : f.Blocks.length ≤ maxLen
  block : ∀ b ∈ f.Blocks, b.Phis.length ≤ maxLen ∧ b.Ops.length ≤ maxLen ∧ b.End.To.length ≤ maxLen
  phi : ∀ b ∈ f.Blocks, ∀ p ∈ b.Phis, p.From.length ≤ maxLen ∧ p.Args.length ≤ maxLen
  op : ∀ b ∈ f.Blocks, ∀ o ∈ b.Ops, o.Args.length ≤ maxLen ∧ 0 ≤ o.Imm ∧ o.Imm < 18446744073709551616
theorem inF {f : TFunc} (h : okTFunc f) : InF f :=
  ⟨h.1.2, h.2.2.1.2, fun b hb => ⟨(h.2.2.1.1 b hb).1.2, (h.2.2.1.1 b hb).2.1.2, (h.2.2.1.1 b hb).2.2.1.2.2.1.2⟩, fun b hb p hp => ⟨((h.2.2.1.1 b hb).1.1 p hp).2.2.1.2, ((h.2.2.1.1 b hb).1.1 p hp).2.2.2.1.2⟩,
    fun b hb o ho => ⟨((h.2.2.1.1 b hb).2.1.1 o ho).2.2.2.2.1.2, wf_u64 ((h.2.2.1.1 b hb).2.1.1 o ho).2.2.2.2.2.1⟩⟩

theorem w64_nat {n : Nat} (h : n < 9223372036854775808) : w64 (n : Int) = n := w64_of (by omega) (by omega)
theorem w64_suc' {i n : Nat} (h : i < n) (hn : n ≤ maxLen) : w64 ((i : Int) + 1) = ((i + 1 : Nat) : Int) := by rw [maxLen_eq] at hn; rw [show ((i : Int) + 1) = ((i + 1 : Nat) : Int) by omega, w64_nat (by omega)]

/-! ### How much there is -/
/-- Of whatever size: it is told. -/
theorem small_some (f : TFunc) (hf : InF f) : ∃ b, m_lockstepref04_Small f = some b := by
  have h3 : ∃ x, loopO (m_lockstepref04_Small_L3 f) ((f.Params.length : Int), ((0 : Nat) : Int)) = some x := by
    refine loop_total f.Blocks.length (m_lockstepref04_Small_L3 f) (fun n i hi => ?_) (fun n => ?_) f.Blocks.length 0 _ (Nat.zero_add _)
    · have hmem := getD_mem (d := (default : TBlock)) hi
      obtain ⟨b1, b2, _⟩ := hf.block _ hmem
      have hI : InB (i : Int) f.Blocks.length := inB_nat hi
      unfold m_lockstepref04_Small_L3
      cases hc : (bif decide ((i : Int) < (f.Blocks.length : Int)) then decide (n ≤ 20000) else false) with
      | false => right; simp only [hc, cond_false]; exact ⟨_, rfl⟩
      | true =>
        left
        simp only [hc, cond_true, chk_pos' hI]
        obtain ⟨x1, h1⟩ := loop_total (f.Blocks.getD i default).Phis.length (m_lockstepref04_Small_L1 f i) (fun n j hj => by
            unfold m_lockstepref04_Small_L1
            simp only [chk_pos' hI, Int.toNat_natCast]
            cases hc : (bif decide ((j : Int) < ((f.Blocks.getD i default).Phis.length : Int)) then decide (n ≤ 20000) else false) with
            | false => right; exact ⟨_, rfl⟩
            | true => left; simp only [cond_true, chk_pos' (inB_nat hj), w64_suc' hj b1]; exact ⟨_, rfl⟩) (fun n => by
            unfold m_lockstepref04_Small_L1
            simp only [chk_pos' hI, Int.toNat_natCast]
            have : decide (((f.Blocks.getD i default).Phis.length : Int) < ((f.Blocks.getD i default).Phis.length : Int)) = false := by simp
            simp only [this, cond_false]; exact ⟨_, rfl⟩) _ 0 (w64 (w64 (n + 1) + ((f.Blocks.getD i default).End.To.length : Int))) (Nat.zero_add _)
        obtain ⟨x2, h2⟩ := loop_total (f.Blocks.getD i default).Ops.length (m_lockstepref04_Small_L2 f i) (fun n j hj => by
            unfold m_lockstepref04_Small_L2
            simp only [chk_pos' hI, Int.toNat_natCast]
            cases hc : (bif decide ((j : Int) < ((f.Blocks.getD i default).Ops.length : Int)) then decide (n ≤ 20000) else false) with
            | false => right; exact ⟨_, rfl⟩
            | true => left; simp only [cond_true, chk_pos' (inB_nat hj), w64_suc' hj b2]; exact ⟨_, rfl⟩) (fun n => by
            unfold m_lockstepref04_Small_L2
            simp only [chk_pos' hI, Int.toNat_natCast]
            have : decide (((f.Blocks.getD i default).Ops.length : Int) < ((f.Blocks.getD i default).Ops.length : Int)) = false := by simp
            simp only [this, cond_false]; exact ⟨_, rfl⟩) _ 0 x1 (Nat.zero_add _)
        rw [show ((0 : Nat) : Int) = 0 from rfl] at h1 h2
        simp only [Int.toNat_natCast, h1, h2, Option.bind_some, w64_suc' hi hf.blocks]
        exact ⟨_, rfl⟩
    · unfold m_lockstepref04_Small_L3
      have : decide ((f.Blocks.length : Int) < (f.Blocks.length : Int)) = false := by simp
      simp only [this, cond_false]; exact ⟨_, rfl⟩
  obtain ⟨x, hx⟩ := h3
  unfold m_lockstepref04_Small
  rw [show ((0 : Nat) : Int) = 0 from rfl] at hx
  rw [hx]
  exact ⟨_, rfl⟩

/-- Where lists are short: just if there is not too much. -/
theorem small_eq (f : TFunc) (hf : InF f) (h0 : f.Params.length ≤ 64) (hb : ∀ b ∈ f.Blocks, b.End.To.length ≤ 64 ∧ (∀ p ∈ b.Phis, p.From.length ≤ 64 ∧ p.Args.length ≤ 64) ∧ ∀ o ∈ b.Ops, o.Args.length ≤ 64) : m_lockstepref04_Small f = some (decide (entF f ≤ 20000)) := by
  have h3 := loop_sum f.Blocks (default : TBlock) entB 20000 (m_lockstepref04_Small_L3 f) (fun n i hi hn => by
      have hmem := getD_mem (d := (default : TBlock)) hi
      obtain ⟨b1, b2, b3⟩ := hf.block _ hmem
      obtain ⟨hTo, hPh, hOp⟩ := hb _ hmem
      have hI1 : InB (i : Int) f.Blocks.length := inB_nat hi
      have l1 := loop_sum (f.Blocks.getD i default).Phis (default : TPhi) entP 20000 (m_lockstepref04_Small_L1 f i) (fun n j hj hn => by
          have hm := getD_mem (d := (default : TPhi)) hj
          obtain ⟨p1, p2⟩ := hPh _ hm
          have e1 : decide ((j : Int) < ((f.Blocks.getD i default).Phis.length : Int)) = true := by simpa using hj
          have e2 : decide ((n : Int) ≤ 20000) = true := by simp; omega
          refine ⟨n + entP ((f.Blocks.getD i default).Phis.getD j default), ?_, fun _ => rfl, fun h => h⟩
          unfold m_lockstepref04_Small_L1
          simp only [chk_pos' hI1, Int.toNat_natCast, e1, e2, cond_true, chk_pos' (inB_nat hj), w64_suc' hj b1]
          congr 3
          rw [w64_of (n := (n : Int) + 1) (by omega) (by omega), w64_of (n := (n : Int) + 1 + _) (by omega) (by omega), w64_of (by omega) (by omega)]
          simp only [entP]
          omega) (fun n j hj hd => by
          unfold m_lockstepref04_Small_L1
          simp only [chk_pos' hI1, Int.toNat_natCast]
          have : (bif decide ((j : Int) < ((f.Blocks.getD i default).Phis.length : Int)) then decide ((n : Int) ≤ 20000) else false) = false := by
            rcases hd with rfl | h
            · simp
            · simp; omega
          rw [this]; rfl)
      have l2 := loop_sum (f.Blocks.getD i default).Ops (default : TOp) entO 20000 (m_lockstepref04_Small_L2 f i) (fun n j hj hn => by
          have hm := getD_mem (d := (default : TOp)) hj
          have p1 := hOp _ hm
          have e1 : decide ((j : Int) < ((f.Blocks.getD i default).Ops.length : Int)) = true := by simpa using hj
          have e2 : decide ((n : Int) ≤ 20000) = true := by simp; omega
          refine ⟨n + entO ((f.Blocks.getD i default).Ops.getD j default), ?_, fun _ => rfl, fun h => h⟩
          unfold m_lockstepref04_Small_L2
          simp only [chk_pos' hI1, Int.toNat_natCast, e1, e2, cond_true, chk_pos' (inB_nat hj), w64_suc' hj b2]
          congr 3
          rw [w64_of (n := (n : Int) + 1) (by omega) (by omega), w64_of (by omega) (by omega)]
          simp only [entO]
          omega) (fun n j hj hd => by
          unfold m_lockstepref04_Small_L2
          simp only [chk_pos' hI1, Int.toNat_natCast]
          have : (bif decide ((j : Int) < ((f.Blocks.getD i default).Ops.length : Int)) then decide ((n : Int) ≤ 20000) else false) = false := by
            rcases hd with rfl | h
            · simp
            · simp; omega
          rw [this]; rfl)
      have e1 : decide ((i : Int) < (f.Blocks.length : Int)) = true := by simpa using hi
      have e2 : decide ((n : Int) ≤ 20000) = true := by simp; omega
      obtain ⟨m1, q1, q2, q3⟩ := l1 _ 0 (n + 1 + (f.Blocks.getD i default).End.To.length) (Nat.zero_add _)
      obtain ⟨m2, q4, q5, q6⟩ := l2 _ 0 m1 (Nat.zero_add _)
      rw [List.drop_zero] at q2 q3 q5 q6
      refine ⟨m2, ?_, fun hle => ?_, fun hle => ?_⟩
      · unfold m_lockstepref04_Small_L3
        simp only [e1, e2, cond_true, chk_pos' hI1, Int.toNat_natCast, w64_suc' hi hf.blocks]
        rw [w64_of (n := (n : Int) + 1) (by omega) (by omega), w64_of (by omega) (by omega), show (n : Int) + 1 + ((f.Blocks.getD i default).End.To.length : Int) = ((n + 1 + (f.Blocks.getD i default).End.To.length : Nat) : Int) by omega]
        rw [show ((0 : Nat) : Int) = 0 from rfl] at q1 q4
        rw [q1, Option.bind_some, q4, Option.bind_some]
      · simp only [entB] at hle ⊢
        have := q2 (by omega)
        rw [q5 (by omega)]
        omega
      · simp only [entB]
        have h6 := q6 hle
        have h3 := q3 (by omega)
        have := q2 h3
        omega) (fun n i hi hd => by
      unfold m_lockstepref04_Small_L3
      have : (bif decide ((i : Int) < (f.Blocks.length : Int)) then decide ((n : Int) ≤ 20000) else false) = false := by
        rcases hd with rfl | h
        · simp
        · simp; omega
      simp only [this, cond_false]) f.Blocks.length 0 f.Params.length (Nat.zero_add _)
  obtain ⟨m, h1, h2, h4⟩ := h3
  rw [List.drop_zero] at h2 h4
  unfold m_lockstepref04_Small
  rw [show ((0 : Nat) : Int) = 0 from rfl] at h1
  rw [h1, Option.bind_some]
  congr 1
  apply decide_eq_decide.2
  simp only [entF]
  constructor
  · intro h; exact h4 (by omega)
  · intro h; have := h2 h; omega

/-! ### Whether it may be told -/
theorem rnum_eq (n : Int) : m_lockstepref04_num n = some (numB n) := by unfold m_lockstepref04_num numB; cases decide ((0 : Int) ≤ n) <;> rfl
theorem rlist_eq (l : List Int) (h : l.length ≤ maxLen) : m_lockstepref04_list l = some (listB l) := by
  unfold m_lockstepref04_list
  rw [maxLen_eq] at h
  have hloop := loop_all l (0 : Int) numB (m_lockstepref04_list_L1 l) (.inl ()) (.inr false) (fun i hi hp => by
      unfold m_lockstepref04_list_L1
      have : decide ((i : Int) < (l.length : Int)) = true := by simpa using hi
      simp only [this, cond_true, chk_pos' (inB_nat hi), Int.toNat_natCast, rnum_eq, Option.bind_some, hp, Bool.not_true, cond_false, w64_succ hi (by omega)]) (fun i hi hp => by
      unfold m_lockstepref04_list_L1
      have : decide ((i : Int) < (l.length : Int)) = true := by simpa using hi
      simp only [this, cond_true, chk_pos' (inB_nat hi), Int.toNat_natCast, rnum_eq, Option.bind_some, hp, Bool.not_false]) (by
      unfold m_lockstepref04_list_L1
      simp) l.length 0 (by omega)
  rw [show (0 : Int) = ((0 : Nat) : Int) from rfl, hloop, List.drop_zero]
  unfold listB
  have e : decide ((l.length : Int) ≤ 64) = decide (l.length ≤ 64) := by apply decide_eq_decide.2; omega
  cases l.all numB
  · rfl
  · simp [e]
theorem rsize_eq (f : TFunc) (hf : InF f) : m_lockstepref04_Size f = some (sizeW f) := by
  unfold m_lockstepref04_Size
  have hl := loop_addw f.Blocks (default : TBlock) sizeB id (m_lockstepref04_Size_L1 f) (fun n i hi => by
      have e1 : decide ((i : Int) < (f.Blocks.length : Int)) = true := by simpa using hi
      unfold m_lockstepref04_Size_L1
      simp only [e1, cond_true, chk_pos' (inB_nat hi), Int.toNat_natCast, w64_suc' hi hf.blocks]
      congr 3
      rw [w64_add, w64_add, Int.add_assoc (w64 _), w64_add]
      unfold sizeB
      congr 1
      omega) (fun n => by
      unfold m_lockstepref04_Size_L1
      simp) f.Blocks.length 0 0 (Nat.zero_add _)
  rw [List.drop_zero] at hl
  rw [show w64 ((0 : Nat) : Int) = 0 from rfl, show ((0 : Nat) : Int) = 0 from rfl] at hl
  rw [hl]
  simp [sizeN, sizeW]

theorem bif_chain {p q : Bool} : (bif p then true else q) = (p || q) := by cases p <;> rfl
theorem rmay_eq (f : TFunc) (hf : InF f) : m_lockstepref04_May f = some (mayF f) := by
  have hloop : loopO (m_lockstepref04_May_L3 f) ((0 : Nat) : Int) = some (bif (f.Blocks.drop 0).all blockB then .inl () else .inr false) := by
    have step : ∀ i : Nat, i < f.Blocks.length → m_lockstepref04_May_L3 f (i : Int) = bif blockB (f.Blocks.getD i default) then some (.next ((i : Int) + 1)) else some (.done (.inr false)) := fun i hi => by
      have hmem := getD_mem (d := (default : TBlock)) hi
      obtain ⟨b1, b2, b3⟩ := hf.block _ hmem
      have hPh := hf.phi _ hmem
      have hOp := hf.op _ hmem
      have hM := maxLen_eq
      have e0 : decide ((i : Int) < (f.Blocks.length : Int)) = true := by simpa using hi
      have l1 := loop_all (f.Blocks.getD i default).Phis (default : TPhi) phiB (m_lockstepref04_May_L1 f i) (.inl ()) (.inr false) (fun j hj hp => by
          obtain ⟨p1, p2⟩ := hPh _ (getD_mem (d := (default : TPhi)) hj)
          have e1 : decide ((j : Int) < ((f.Blocks.getD i default).Phis.length : Int)) = true := by simpa using hj
          unfold m_lockstepref04_May_L1
          simp only [e1, cond_true, Int.toNat_natCast, chk_pos' (inB_nat hj), rnum_eq, Option.bind_some, rlist_eq _ p1, rlist_eq _ p2, w64_succ hj (by omega)]
          revert hp
          unfold phiB
          cases numB ((f.Blocks.getD i default).Phis.getD j default).Bits <;> cases numB ((f.Blocks.getD i default).Phis.getD j default).Dst <;> cases listB ((f.Blocks.getD i default).Phis.getD j default).From <;> cases listB ((f.Blocks.getD i default).Phis.getD j default).Args <;> simp) (fun j hj hp => by
          obtain ⟨p1, p2⟩ := hPh _ (getD_mem (d := (default : TPhi)) hj)
          have e1 : decide ((j : Int) < ((f.Blocks.getD i default).Phis.length : Int)) = true := by simpa using hj
          unfold m_lockstepref04_May_L1
          simp only [e1, cond_true, Int.toNat_natCast, chk_pos' (inB_nat hj), rnum_eq, Option.bind_some, rlist_eq _ p1, rlist_eq _ p2, w64_succ hj (by omega)]
          revert hp
          unfold phiB
          cases numB ((f.Blocks.getD i default).Phis.getD j default).Bits <;> cases numB ((f.Blocks.getD i default).Phis.getD j default).Dst <;> cases listB ((f.Blocks.getD i default).Phis.getD j default).From <;> cases listB ((f.Blocks.getD i default).Phis.getD j default).Args <;> simp) (by
          unfold m_lockstepref04_May_L1
          simp) _ 0 (Nat.zero_add _)
      have l2 := loop_all (f.Blocks.getD i default).Ops (default : TOp) opB (m_lockstepref04_May_L2 f i) (.inl ()) (.inr false) (fun j hj hp => by
          obtain ⟨p1, _⟩ := hOp _ (getD_mem (d := (default : TOp)) hj)
          have e1 : decide ((j : Int) < ((f.Blocks.getD i default).Ops.length : Int)) = true := by simpa using hj
          unfold m_lockstepref04_May_L2
          simp only [e1, cond_true, Int.toNat_natCast, chk_pos' (inB_nat hj), rnum_eq, Option.bind_some, rlist_eq _ p1, w64_succ hj (by omega)]
          revert hp
          unfold opB
          cases numB ((f.Blocks.getD i default).Ops.getD j default).Kind <;> cases numB ((f.Blocks.getD i default).Ops.getD j default).Bits <;> cases numB ((f.Blocks.getD i default).Ops.getD j default).Lanes <;> cases numB ((f.Blocks.getD i default).Ops.getD j default).Dst <;> cases listB ((f.Blocks.getD i default).Ops.getD j default).Args <;> simp) (fun j hj hp => by
          obtain ⟨p1, _⟩ := hOp _ (getD_mem (d := (default : TOp)) hj)
          have e1 : decide ((j : Int) < ((f.Blocks.getD i default).Ops.length : Int)) = true := by simpa using hj
          unfold m_lockstepref04_May_L2
          simp only [e1, cond_true, Int.toNat_natCast, chk_pos' (inB_nat hj), rnum_eq, Option.bind_some, rlist_eq _ p1, w64_succ hj (by omega)]
          revert hp
          unfold opB
          cases numB ((f.Blocks.getD i default).Ops.getD j default).Kind <;> cases numB ((f.Blocks.getD i default).Ops.getD j default).Bits <;> cases numB ((f.Blocks.getD i default).Ops.getD j default).Lanes <;> cases numB ((f.Blocks.getD i default).Ops.getD j default).Dst <;> cases listB ((f.Blocks.getD i default).Ops.getD j default).Args <;> simp) (by
          unfold m_lockstepref04_May_L2
          simp) _ 0 (Nat.zero_add _)
      rw [show ((0 : Nat) : Int) = 0 from rfl, List.drop_zero] at l1 l2
      unfold m_lockstepref04_May_L3
      simp only [e0, cond_true, chk_pos' (inB_nat hi), l1, Option.bind_some]
      unfold blockB
      cases (f.Blocks.getD i default).Phis.all phiB with
      | false => rfl
      | true =>
        simp only [cond_true, l2, Option.bind_some, Int.toNat_natCast, rnum_eq, rlist_eq _ b3, w64_succ hi (by have := hf.blocks; omega)]
        cases (f.Blocks.getD i default).Ops.all opB with
        | false => rfl
        | true =>
          unfold endB
          cases numB (f.Blocks.getD i default).End.Kind <;> cases numB (f.Blocks.getD i default).End.Arg <;> cases listB (f.Blocks.getD i default).End.To <;> rfl
    exact loop_all f.Blocks (default : TBlock) blockB (m_lockstepref04_May_L3 f) (.inl ()) (.inr false) (fun i hi hp => by rw [step i hi, hp]; rfl) (fun i hi hp => by rw [step i hi, hp]; rfl) (by
      unfold m_lockstepref04_May_L3
      simp) _ 0 (Nat.zero_add _)
  rw [show ((0 : Nat) : Int) = 0 from rfl, List.drop_zero] at hloop
  unfold m_lockstepref04_May mayF
  simp only [rlist_eq _ hf.params, rnum_eq, rsize_eq f hf, hloop]
  have e1 : ((f.Blocks.length : Int) == 0) = !decide (1 ≤ f.Blocks.length) := by
    rw [← decide_not]
    by_cases h : f.Blocks.length = 0
    · simp [h]
    · have h1 : ((f.Blocks.length : Int) == 0) = false := by simpa using h
      rw [h1]; symm; apply decide_eq_false; omega
  have e2 : decide ((64 : Int) < (f.Blocks.length : Int)) = !decide (f.Blocks.length ≤ 64) := by rw [← decide_not]; apply decide_eq_decide.2; omega
  have e3 : decide ((16 : Int) < (f.Params.length : Int)) = !decide (f.Params.length ≤ 16) := by rw [← decide_not]; apply decide_eq_decide.2; omega
  have e4 : decide ((512 : Int) < sizeW f) = !decide (sizeW f ≤ 512) := by rw [← decide_not]; apply decide_eq_decide.2; omega
  rw [e1, e2, e3]
  generalize decide (1 ≤ f.Blocks.length) = p1
  generalize decide (f.Blocks.length ≤ 64) = p2
  generalize decide (f.Params.length ≤ 16) = p3
  generalize listB f.Params = p4
  generalize numB f.Ret = p5
  cases p1 with
  | false => simp
  | true => cases p2 with
    | false => simp
    | true => cases p3 with
      | false => simp
      | true => cases p4 with
        | false => simp
        | true => cases p5 with
          | false => simp
          | true =>
            simp only [Bool.not_true, Bool.or_self, cond_true, cond_false, beq_self_eq_true, Option.bind_some, e4]
            cases decide (sizeW f ≤ 512) with
            | false => simp
            | true => cases f.Blocks.all blockB <;> simp
end Go.Proofs.YtcddajbcbkbipaaDoor

namespace Go.Proofs.YtcddajbcbkbipaaDoor
open Go Go.RowKit
set_option linter.unusedVariables false
set_option linter.unusedSimpArgs false
theorem numB_iff {n : Int} : numB n = true ↔ 0 ≤ n ∧ n ≤ 2147483647 := by simp [numB]
theorem listB_iff {l : List Int} : listB l = true ↔ good31 l ∧ l.length ≤ 64 := by
  simp [listB, good31, numB_iff]
def wideP (n : Int) : Prop := 0 ≤ n ∧ n < 18446744073709551616
abbrev isNum (n : Int) : Prop := 0 ≤ n ∧ n ≤ 2147483647
abbrev isList (top : Nat) (l : List Int) : Prop := listB l = true ∧ l.length ≤ top

/-- Such a block, such a function, as may be read. -/
structure OkB (b : TBlock) : Prop where
  may : blockB b = true
  phis : b.Phis.length ≤ 512
  ops : b.Ops.length ≤ 512
  imm : ∀ o ∈ b.Ops, wideP o.Imm
structure OkF (f : TFunc) : Prop where
  params : listB f.Params = true
  few : f.Params.length ≤ 16
  ret : numB f.Ret = true
  blocks : f.Blocks.length ≤ 64
  block : ∀ b ∈ f.Blocks, OkB b
theorem blockB_iff {b : TBlock} : blockB b = true ↔ (∀ p ∈ b.Phis, phiB p = true) ∧ (∀ o ∈ b.Ops, opB o = true) ∧ endB b.End = true := by
  simp [blockB, and_assoc]
theorem sum_le {α : Type} (l : List α) (g : α → Nat) (B : Nat) (h : ∀ a ∈ l, g a ≤ B) : (l.map g).sum ≤ l.length * B := by
  induction l with
  | nil => simp
  | cons a l ih =>
    have h1 := h a (by simp)
    have h2 := ih (fun b hb => h b (by simp [hb]))
    rw [List.map_cons, List.sum_cons, List.length_cons, Nat.add_mul]
    omega
theorem sum_mono {α : Type} (l : List α) (g k : α → Nat) (h : ∀ a ∈ l, g a ≤ k a) : (l.map g).sum ≤ (l.map k).sum := by
  induction l with
  | nil => simp
  | cons a l ih =>
    have h1 := h a (by simp)
    have h2 := ih (fun b hb => h b (by simp [hb]))
    rw [List.map_cons, List.sum_cons, List.map_cons, List.sum_cons]
    omega
theorem len_le_sum {α : Type} (l : List α) (g : α → Nat) (h : ∀ a ∈ l, 1 ≤ g a) : l.length ≤ (l.map g).sum := by
  induction l with
  | nil => simp
  | cons a l ih =>
    have h1 := h a (by simp)
    have h2 := ih (fun b hb => h b (by simp [hb]))
    rw [List.map_cons, List.sum_cons, List.length_cons]
    omega
theorem mem_le_sum {α : Type} {l : List α} {a : α} (g : α → Nat) (h : a ∈ l) : g a ≤ (l.map g).sum := by
  induction l with
  | nil => cases h
  | cons b l ih =>
    rw [List.map_cons, List.sum_cons]
    rcases List.mem_cons.1 h with rfl | h
    · omega
    · have := ih h; omega
theorem OkF.size {f : TFunc} (h : OkF f) : sizeN f ≤ 65600 ∧ sizeW f = sizeN f := by
  have : sizeN f ≤ f.Blocks.length * 1025 := sum_le _ _ _ fun b hb => by
    have h1 := (h.block b hb).phis
    have h2 := (h.block b hb).ops
    simp only [sizeB]
    omega
  have h2 := h.blocks
  have h3 : sizeN f ≤ 65600 := by omega
  exact ⟨h3, w64_nat (by omega)⟩
/-- May be told, and no more than is gone through: such as may be read, and few. -/
theorem may_parts {f : TFunc} (h : mayF f = true) : 1 ≤ f.Blocks.length ∧ f.Blocks.length ≤ 64 ∧ f.Params.length ≤ 16 ∧ listB f.Params = true ∧ numB f.Ret = true ∧ sizeW f ≤ 512 ∧ ∀ b ∈ f.Blocks, blockB b = true := by
  simp only [mayF, Bool.and_eq_true, decide_eq_true_eq, List.all_eq_true] at h
  exact ⟨h.1.1.1.1.1.1, h.1.1.1.1.1.2, h.1.1.1.1.2, h.1.1.1.2, h.1.1.2, h.1.2, h.2⟩
theorem may_lists {f : TFunc} (h : mayF f = true) : f.Params.length ≤ 64 ∧ ∀ b ∈ f.Blocks, b.End.To.length ≤ 64 ∧ (∀ p ∈ b.Phis, p.From.length ≤ 64 ∧ p.Args.length ≤ 64) ∧ ∀ o ∈ b.Ops, o.Args.length ≤ 64 := by
  obtain ⟨_, _, h3, _, _, _, h7⟩ := may_parts h
  refine ⟨by omega, fun b hb => ?_⟩
  obtain ⟨q1, q2, q3⟩ := blockB_iff.1 (h7 b hb)
  simp only [endB, Bool.and_eq_true] at q3
  refine ⟨(listB_iff.1 q3.2).2, fun p hp => ?_, fun o ho => ?_⟩
  · have := q1 p hp
    simp only [phiB, Bool.and_eq_true] at this
    exact ⟨(listB_iff.1 this.1.2).2, (listB_iff.1 this.2).2⟩
  · have := q2 o ho
    simp only [opB, Bool.and_eq_true] at this
    exact (listB_iff.1 this.2).2
theorem may_ok {f : TFunc} (hf : InF f) (h : mayF f = true) (hs : entF f ≤ 20000) : OkF f ∧ sizeN f ≤ 512 := by
  obtain ⟨h1, h2, h3, h4, h5, h6, h7⟩ := may_parts h
  have hle : sizeN f ≤ entF f := by
    have : sizeN f ≤ (f.Blocks.map entB).sum := sum_mono _ _ _ fun b hb => by
      have q1 : b.Phis.length ≤ (b.Phis.map entP).sum := len_le_sum _ _ fun p hp => by simp only [entP]; omega
      have q2 : b.Ops.length ≤ (b.Ops.map entO).sum := len_le_sum _ _ fun p hp => by simp only [entO]; omega
      simp only [sizeB, entB]
      omega
    simp only [entF]
    omega
  have hw : sizeW f = sizeN f := w64_nat (by omega)
  have h512 : sizeN f ≤ 512 := by omega
  refine ⟨⟨h4, h3, h5, h2, fun b hb => ?_⟩, h512⟩
  have hb512 : sizeB b ≤ sizeN f := mem_le_sum sizeB hb
  simp only [sizeB] at hb512
  exact ⟨h7 b hb, by omega, by omega, fun o ho => (hf.op b hb o ho).2⟩
theorem ok_may {f : TFunc} (h : OkF f) (h1 : 1 ≤ f.Blocks.length) (hs : sizeN f ≤ 512) : mayF f = true := by
  have hw := h.size.2
  simp only [mayF, Bool.and_eq_true, decide_eq_true_eq, List.all_eq_true]
  exact ⟨⟨⟨⟨⟨⟨h1, h.blocks⟩, h.few⟩, h.params⟩, h.ret⟩, by omega⟩, fun b hb => (h.block b hb).may⟩
theorem numB_wide {n : Int} (h : numB n = true) : wideP n := by have := numB_iff.1 h; exact ⟨this.1, by omega⟩
end Go.Proofs.YtcddajbcbkbipaaDoor
