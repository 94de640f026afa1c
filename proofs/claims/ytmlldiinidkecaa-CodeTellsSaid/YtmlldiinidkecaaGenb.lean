/-
  What the functions compute, and that they do (part 2 of 3).
-/
import Derived.Test.YtmlldiinidkecaaGena
namespace Go.Proofs.Ytmlldiinidkecaa
open Go Go.RowKit
set_option linter.unusedVariables false
set_option maxRecDepth 100000
set_option maxHeartbeats 2000000
noncomputable def m_code_Encode_L1 (a_f : TFunc) (i5 : Int) : (List (Int) × Int) → Option (LR (List (Int) × Int) (List (Int))) :=
  fun ((l9, i10) : (List (Int) × Int)) => (bif (decide ((i10 : Int) < (((a_f.Blocks.getD (i5).toNat (default : TBlock)).Phis).length : Int))) then (chk (InB i10 ((a_f.Blocks.getD (i5).toNat (default : TBlock)).Phis).length) ((m_code_putPhi l9 (((a_f.Blocks.getD (i5).toNat (default : TBlock)).Phis).getD (i10).toNat (default : TPhi))).bind fun x13 => (some (.next (x13, (w64 (i10 + (1 : Int)))))))) else (some (.done l9)))
noncomputable def m_code_Encode_L2 (a_f : TFunc) (i5 : Int) : (List (Int) × Int) → Option (LR (List (Int) × Int) (List (Int))) :=
  fun ((l17, i18) : (List (Int) × Int)) => (bif (decide ((i18 : Int) < (((a_f.Blocks.getD (i5).toNat (default : TBlock)).Ops).length : Int))) then (chk (InB i18 ((a_f.Blocks.getD (i5).toNat (default : TBlock)).Ops).length) ((m_code_putOp l17 (((a_f.Blocks.getD (i5).toNat (default : TBlock)).Ops).getD (i18).toNat (default : TOp))).bind fun x21 => (some (.next (x21, (w64 (i18 + (1 : Int)))))))) else (some (.done l17)))
noncomputable def m_code_Encode_L3 (a_f : TFunc) : (List (Int) × Int) → Option (LR (List (Int) × Int) (List (Int))) :=
  fun ((l4, i5) : (List (Int) × Int)) => (bif (decide ((i5 : Int) < (a_f.Blocks.length : Int))) then (chk (InB i5 a_f.Blocks.length) ((m_code_put l4 ([(((a_f.Blocks.getD (i5).toNat (default : TBlock)).Phis).length : Int)] : List (Int))).bind fun x8 => ((loopO (S := (List (Int) × Int)) (X := List (Int)) (m_code_Encode_L1 a_f i5) (x8, (0 : Int))).bind (fun x14 => (((m_code_put x14 ([(((a_f.Blocks.getD (i5).toNat (default : TBlock)).Ops).length : Int)] : List (Int))).bind fun x16 => ((loopO (S := (List (Int) × Int)) (X := List (Int)) (m_code_Encode_L2 a_f i5) (x16, (0 : Int))).bind (fun x22 => (((m_code_putEnd x22 (⟨(a_f.Blocks.getD (i5).toNat (default : TBlock)).End.Kind, (a_f.Blocks.getD (i5).toNat (default : TBlock)).End.Arg, (a_f.Blocks.getD (i5).toNat (default : TBlock)).End.To⟩ : TEnd)).bind fun x24 => (some (.next (x24, (w64 (i5 + (1 : Int)))))))))))))))) else (some (.done l4)))
noncomputable def Q167 : AV := (.int .i64 (0 : Int))
noncomputable def Q168 (a_f : TFunc) (i5 : Int) := (a_f.Blocks.getD (i5).toNat (default : TBlock))
noncomputable def Q160 (a_f : TFunc) (i5 : Int) := ((Q168 a_f i5).Ops)
noncomputable def Q171 (a_f : TFunc) (i5 : Int) := ((Q160 a_f i5).length : Int)
noncomputable def Q161 (a_f : TFunc) (i5 : Int) := ((Q168 a_f i5).Phis)
noncomputable def Q172 (a_f : TFunc) (i5 : Int) := ((Q161 a_f i5).length : Int)
noncomputable def Q165 : AV := (.slice 0 0 (fun _ => []) .exact)
noncomputable def Q162 (a_f : TFunc) : AV := (.int .i64 (a_f.Blocks.length : Int))
noncomputable def Q163 (a_f : TFunc) : AV := (AV.list 1 eI64 (0 : Int) a_f.Params .none)
noncomputable def Q159 (a_f : TFunc) : AV := (AV.list 5 eTBlock (default : TBlock) a_f.Blocks .none)
noncomputable def Q173 (a_f : TFunc) : List AV := [(Q163 a_f), (.int .i64 a_f.Ret), (Q159 a_f)]
noncomputable def Q164 : AV := (AV.list 1 eU8 (0 : Int) ([] : List Int) .exact)
noncomputable def Q169 (a_f : TFunc) (i5 : Int) (i18 : Int) := ((Q160 a_f i5).getD (i18).toNat (default : TOp))
noncomputable def Q170 (a_f : TFunc) (i5 : Int) (i10 : Int) := ((Q161 a_f i5).getD (i10).toNat (default : TPhi))
noncomputable def Q166 (a_f : TFunc) := ([a_f.Ret, (a_f.Blocks.length : Int)] : List (Int))
noncomputable def Q179 (a_f : TFunc) (i5 : Int) : AV := (AV.list 6 eTOp (default : TOp) (Q168 a_f i5).Ops .none)
noncomputable def Q174 (a_f : TFunc) (i5 : Int) : AV := (AV.list 4 eTPhi (default : TPhi) (Q168 a_f i5).Phis .none)
noncomputable def Q177 (a_f : TFunc) (i5 : Int) (i10 : Int) : List AV := [(.int .i64 (Q170 a_f i5 i10).Bits), (.int .i64 (Q170 a_f i5 i10).Dst), (AV.list 1 eI64 (0 : Int) (Q170 a_f i5 i10).From .none), (AV.list 1 eI64 (0 : Int) (Q170 a_f i5 i10).Args .none)]
noncomputable def Q176 (a_f : TFunc) (i5 : Int) (i18 : Int) : List AV := [(.int .i64 (Q169 a_f i5 i18).Kind), (.int .i64 (Q169 a_f i5 i18).Bits), (.int .i64 (Q169 a_f i5 i18).Lanes), (.int .i64 (Q169 a_f i5 i18).Dst), (AV.list 1 eI64 (0 : Int) (Q169 a_f i5 i18).Args .none), (.int .u64 (Q169 a_f i5 i18).Imm)]
noncomputable def Q158 (a_f : TFunc) (i5 : Int) : List AV := [(Q174 a_f i5), (Q179 a_f i5), (.int .i64 (Q168 a_f i5).End.Kind), (.int .i64 (Q168 a_f i5).End.Arg), (AV.list 1 eI64 (0 : Int) (Q168 a_f i5).End.To .none)]
noncomputable def Q178 (l9 : List (Int)) (a_f : TFunc) (i5 : Int) (i10 : Int) := (⟨[(3, (AV.list 1 eU8 (0 : Int) l9 (.own 15))), (5, (.ptr 5 0)), (24, (Q159 a_f)), (25, (Q162 a_f)), (26, (.int .i64 i5)), (37, (Q174 a_f i5)), (38, (.int .i64 (Q172 a_f i5))), (39, (.int .i64 i10))], [(5, .row (Q158 a_f i5)), (15, .tok 1 5 l9.length)]⟩ : St)
noncomputable def Q175 (l17 : List (Int)) (a_f : TFunc) (i5 : Int) (i18 : Int) := (⟨[(3, (AV.list 1 eU8 (0 : Int) l17 (.own 15))), (5, (.ptr 5 0)), (24, (Q159 a_f)), (25, (Q162 a_f)), (26, (.int .i64 i5)), (54, (Q179 a_f i5)), (55, (.int .i64 (Q171 a_f i5))), (56, (.int .i64 i18))], [(5, .row (Q158 a_f i5)), (15, .tok 1 5 l17.length)]⟩ : St)
noncomputable def m_code_Encode (a_f : TFunc) : Option (List (Int)) :=
  ((m_code_May a_f).bind fun x1 => (bif (!x1) then (some ([] : List Int)) else ((m_num_Row a_f.Params).bind fun x2 => ((m_code_put x2 ([a_f.Ret, (a_f.Blocks.length : Int)] : List (Int))).bind fun x3 => ((loopO (S := (List (Int) × Int)) (X := List (Int)) (m_code_Encode_L3 a_f) (x3, (0 : Int))).bind (fun x25 => ((some x25))))))))
theorem ok_code_Encode (a_f : TFunc) (r : List (Int)) (h : m_code_Encode a_f = some r) : Spec Try.prog 10 [(.agg (eTFunc a_f))] [] (AV.list 1 eU8 (0 : Int) r (.own 20000)) [(20000, .tok 1 5 r.length)] := by
  refine spec_of_awp (fn := Try.f10) Try.func10 rfl rfl (by kernel_rfl) (fun Γ hn hΓ => ?_)
  have hn : Γ.n = 70 := hn
  unfold m_code_Encode at h
  refine awp_seq ?_
  refine awp_region (rs := []) (cs := [(2, Q164)]) (live := [1]) (names := [1]) (st' := (⟨[(1, (.ptr 1 0))], [(1, .row (Q173 a_f))]⟩ : St)) (obs := [(AVle Q165 Q164)]) hn mix (no_hand hΓ) (by kernel_rfl) ⟨av_nil, trivial⟩ ?_
  refine then_normal ?_
  refine awp_seq ?_
  refine awp_seq ?_
  obtain ⟨x1, hx1, h⟩ := bind_some h
  refine awp_region (rs := [⟨[], [], (.bool x1), []⟩]) (cs := []) (live := [1, 12]) (names := [1]) (st' := (⟨[(1, (.ptr 1 0)), (12, (.bool (!x1)))], [(1, .row (Q173 a_f))]⟩ : St)) (obs := [(0 + 3 ≤ List.length (α := AV) (Q173 a_f)), (Spec Try.prog 11 [(.agg (eTFunc a_f))] [] (.bool x1) [])]) hn mix (no_hand hΓ) (by kernel_rfl) ⟨(nl rfl), (ok_code_May a_f x1 hx1), trivial⟩ ?_
  refine then_normal ?_
  refine awp_cond (!x1) (by kernel_rfl) (fun hb => ?_) (fun hb => ?_)
  · replace h := cond_t hb h
    clear hb
    refine awp_seq ?_
    refine awp_region (rs := []) (cs := [(2, Q164)]) (live := [2]) (names := []) (st' := (⟨[(2, Q164)], []⟩ : St)) (obs := [(AVle Q165 Q164)]) hn mix (no_hand hΓ) (by kernel_rfl) ⟨av_nil, trivial⟩ ?_
    refine then_normal ?_
    refine awp_le (st' := (⟨[(2, (AV.list 1 eU8 (0 : Int) ([] : List Int) (.own 6002)))], [(6002, .tok 1 5 (([] : List Int).length))]⟩ : St)) (Le.trans (le_restrict_eq (st' := (⟨[(2, Q164)], []⟩ : St)) [2] [] (by kernel_rfl) (no_hand hΓ)) (Le.trans (le_tag (t := 2) (nm := 6002) (sz' := 1) (fun i => eU8 (([] : List Int).getD i (0 : Int))) 5 rfl rfl (.inl ⟨rfl, rfl⟩)) (le_restrict_eq (st' := (⟨[(2, (AV.list 1 eU8 (0 : Int) ([] : List Int) (.own 6002)))], [(6002, .tok 1 5 (([] : List Int).length))]⟩ : St)) [2] [6002] (by kernel_rfl) (no_hand hΓ)))) ?_
    refine awp_ret ?_
    refine then_ret ?_
    obtain rfl := Option.some.inj h
    exact ⟨.inl rfl, [(6002, 20000)], by kernel_rfl⟩
  · replace h := cond_f hb h
    clear hb
    refine awp_skip ?_
    refine then_normal ?_
    refine awp_seq ?_
    obtain ⟨x2, hx2, h⟩ := bind_some h
    obtain ⟨x3, hx3, h⟩ := bind_some h
    refine awp_region (rs := [⟨[], [(20000, 15)], (AV.list 1 eU8 (0 : Int) x2 (.own 20000)), [(20000, .tok 1 5 x2.length)]⟩, ⟨[(15, 32000)], [], (AV.list 1 eU8 (0 : Int) x3 (.own 32000)), [(32000, .tok 1 5 x3.length)]⟩]) (cs := [(21, (AV.list 1 eI64 (0 : Int) (Q166 a_f) .exact))]) (live := [1, 3]) (names := [1, 15]) (st' := (⟨[(1, (.ptr 1 0)), (3, (AV.list 1 eU8 (0 : Int) x3 (.own 15)))], [(1, .row (Q173 a_f)), (15, .tok 1 5 x3.length)]⟩ : St)) (obs := [(0 < List.length (α := AV) (Q173 a_f)), (Spec Try.prog 21 [(Q163 a_f)] [] (AV.list 1 eU8 (0 : Int) x2 (.own 20000)) [(20000, .tok 1 5 x2.length)]), (1 < List.length (α := AV) (Q173 a_f)), (2 < List.length (α := AV) (Q173 a_f)), (AVle (.slice 1 2 (fun i => ([[(.int .i64 a_f.Ret)], [(Q162 a_f)]] : List (List AV)).getD i []) .exact) (AV.list 1 eI64 (0 : Int) (Q166 a_f) .exact)), (Spec Try.prog 20 [(AV.list 1 eU8 (0 : Int) x2 (.own 32000)), (AV.list 1 eI64 (0 : Int) (Q166 a_f) .none)] [(32000, .tok 1 5 x2.length)] (AV.list 1 eU8 (0 : Int) x3 (.own 32000)) [(32000, .tok 1 5 x3.length)])]) hn mix (no_hand hΓ) (by kernel_rfl) ⟨(nl rfl), (ok_num_Row a_f.Params x2 hx2), (nl rfl), (nl rfl), (av_lit rfl (fun i hi => map_get (e := eI64) (d := (0 : Int)) (Q166 a_f) i hi)), (ok_code_put x2 (Q166 a_f) x3 hx3), trivial⟩ ?_
    refine then_normal ?_
    refine awp_seq ?_
    refine awp_seq ?_
    refine awp_region (rs := []) (cs := []) (live := [3, 24, 25, 26]) (names := [15]) (st' := (⟨[(3, (AV.list 1 eU8 (0 : Int) x3 (.own 15))), (24, (Q159 a_f)), (25, (Q162 a_f)), (26, Q167)], [(15, .tok 1 5 x3.length)]⟩ : St)) (obs := [(2 < List.length (α := AV) (Q173 a_f))]) hn mix (no_hand hΓ) (by kernel_rfl) ⟨(nl rfl), trivial⟩ ?_
    refine then_normal ?_
    refine awp_block ?_
    refine awp_le (st' := (fun ((l4, i5) : (List (Int) × Int)) => (⟨[(3, (AV.list 1 eU8 (0 : Int) l4 (.own 15))), (24, (Q159 a_f)), (25, (Q162 a_f)), (26, (.int .i64 i5))], [(15, .tok 1 5 l4.length)]⟩ : St)) (x3, (0 : Int))) (Le.refl _ _) ?_
    obtain ⟨x25, hx25, h⟩ := bind_some h
    refine awp_loop (fun ((l4, i5) : (List (Int) × Int)) => (⟨[(3, (AV.list 1 eU8 (0 : Int) l4 (.own 15))), (24, (Q159 a_f)), (25, (Q162 a_f)), (26, (.int .i64 i5))], [(15, .tok 1 5 l4.length)]⟩ : St)) _ (fun (l6 : List (Int)) (e : Exit) (st : St) => e = (.exit 0) ∧ Le Γ st (⟨[(3, (AV.list 1 eU8 (0 : Int) l6 (.own 15)))], [(15, .tok 1 5 l6.length)]⟩ : St)) ?_ hx25 ?_
    · rintro ⟨l4, i5⟩ y h
      unfold m_code_Encode_L3 at h
      refine awp_seq ?_
      refine awp_region (rs := []) (cs := []) (live := [3, 24, 25, 26, 27]) (names := [15]) (st' := (⟨[(3, (AV.list 1 eU8 (0 : Int) l4 (.own 15))), (24, (Q159 a_f)), (25, (Q162 a_f)), (26, (.int .i64 i5)), (27, (.bool (decide ((i5 : Int) < (a_f.Blocks.length : Int)))))], [(15, .tok 1 5 l4.length)]⟩ : St)) (obs := []) hn mix (no_hand hΓ) (by kernel_rfl) trivial ?_
      refine then_normal ?_
      refine awp_seq ?_
      refine awp_cond (decide ((i5 : Int) < (a_f.Blocks.length : Int))) (by kernel_rfl) (fun hb => ?_) (fun hb => ?_)
      · replace h := cond_t hb h
        clear hb
        refine awp_skip ?_
        refine then_normal ?_
        refine awp_seq ?_
        refine awp_block ?_
        refine awp_seq ?_
        obtain ⟨hc7, h⟩ := chk_some h
        refine awp_region (rs := []) (cs := []) (live := [3, 5, 24, 25, 26]) (names := [5, 15]) (st' := (⟨[(3, (AV.list 1 eU8 (0 : Int) l4 (.own 15))), (5, (.ptr 5 0)), (24, (Q159 a_f)), (25, (Q162 a_f)), (26, (.int .i64 i5))], [(5, .row (Q158 a_f i5)), (15, .tok 1 5 l4.length)]⟩ : St)) (obs := [(InB i5 a_f.Blocks.length), (0 + List.length (α := AV) (eTBlock (Q168 a_f i5)) ≤ List.length (α := AV) [Q165, Q165, Q167, Q167, Q165])]) hn mix (no_hand hΓ) (by kernel_rfl) ⟨hc7, (nl rfl), trivial⟩ ?_
        refine then_normal ?_
        refine awp_seq ?_
        obtain ⟨x8, hx8, h⟩ := bind_some h
        refine awp_region (rs := [⟨[(15, 32000)], [], (AV.list 1 eU8 (0 : Int) x8 (.own 32000)), [(32000, .tok 1 5 x8.length)]⟩]) (cs := [(34, (AV.list 1 eI64 (0 : Int) ([(Q172 a_f i5)] : List (Int)) .exact))]) (live := [3, 5, 24, 25, 26]) (names := [5, 15]) (st' := (⟨[(3, (AV.list 1 eU8 (0 : Int) x8 (.own 15))), (5, (.ptr 5 0)), (24, (Q159 a_f)), (25, (Q162 a_f)), (26, (.int .i64 i5))], [(5, .row (Q158 a_f i5)), (15, .tok 1 5 x8.length)]⟩ : St)) (obs := [(0 < List.length (α := AV) (Q158 a_f i5)), (AVle (.slice 1 1 (fun i => ([[(.int .i64 (Q172 a_f i5))]] : List (List AV)).getD i []) .exact) (AV.list 1 eI64 (0 : Int) ([(Q172 a_f i5)] : List (Int)) .exact)), (Spec Try.prog 20 [(AV.list 1 eU8 (0 : Int) l4 (.own 32000)), (AV.list 1 eI64 (0 : Int) ([(Q172 a_f i5)] : List (Int)) .none)] [(32000, .tok 1 5 l4.length)] (AV.list 1 eU8 (0 : Int) x8 (.own 32000)) [(32000, .tok 1 5 x8.length)])]) hn mix (no_hand hΓ) (by kernel_rfl) ⟨(nl rfl), (av_lit rfl (fun i hi => map_get (e := eI64) (d := (0 : Int)) ([(Q172 a_f i5)] : List (Int)) i hi)), (ok_code_put l4 ([(Q172 a_f i5)] : List (Int)) x8 hx8), trivial⟩ ?_
        refine then_normal ?_
        refine awp_seq ?_
        refine awp_seq ?_
        refine awp_region (rs := []) (cs := []) (live := [3, 5, 24, 25, 26, 37, 38, 39]) (names := [5, 15]) (st' := (⟨[(3, (AV.list 1 eU8 (0 : Int) x8 (.own 15))), (5, (.ptr 5 0)), (24, (Q159 a_f)), (25, (Q162 a_f)), (26, (.int .i64 i5)), (37, (Q174 a_f i5)), (38, (.int .i64 (Q172 a_f i5))), (39, Q167)], [(5, .row (Q158 a_f i5)), (15, .tok 1 5 x8.length)]⟩ : St)) (obs := [(0 < List.length (α := AV) (Q158 a_f i5))]) hn mix (no_hand hΓ) (by kernel_rfl) ⟨(nl rfl), trivial⟩ ?_
        refine then_normal ?_
        refine awp_block ?_
        refine awp_le (st' := (fun ((l9, i10) : (List (Int) × Int)) => (Q178 l9 a_f i5 i10)) (x8, (0 : Int))) (Le.refl _ _) ?_
        obtain ⟨x14, hx14, h⟩ := bind_some h
        refine awp_loop (fun ((l9, i10) : (List (Int) × Int)) => (Q178 l9 a_f i5 i10)) _ (fun (l11 : List (Int)) (e : Exit) (st : St) => e = (.exit 2) ∧ Le Γ st (⟨[(3, (AV.list 1 eU8 (0 : Int) l11 (.own 15))), (5, (.ptr 5 0)), (24, (Q159 a_f)), (25, (Q162 a_f)), (26, (.int .i64 i5))], [(5, .row (Q158 a_f i5)), (15, .tok 1 5 l11.length)]⟩ : St)) ?_ hx14 ?_
        · rintro ⟨l9, i10⟩ y h
          unfold m_code_Encode_L1 at h
          refine awp_seq ?_
          refine awp_region (rs := []) (cs := []) (live := [3, 5, 24, 25, 26, 37, 38, 39, 40]) (names := [5, 15]) (st' := (⟨[(3, (AV.list 1 eU8 (0 : Int) l9 (.own 15))), (5, (.ptr 5 0)), (24, (Q159 a_f)), (25, (Q162 a_f)), (26, (.int .i64 i5)), (37, (Q174 a_f i5)), (38, (.int .i64 (Q172 a_f i5))), (39, (.int .i64 i10)), (40, (.bool (decide ((i10 : Int) < (Q172 a_f i5)))))], [(5, .row (Q158 a_f i5)), (15, .tok 1 5 l9.length)]⟩ : St)) (obs := []) hn mix (no_hand hΓ) (by kernel_rfl) trivial ?_
          refine then_normal ?_
          refine awp_seq ?_
          refine awp_cond (decide ((i10 : Int) < (Q172 a_f i5))) (by kernel_rfl) (fun hb => ?_) (fun hb => ?_)
          · replace h := cond_t hb h
            clear hb
            refine awp_skip ?_
            refine then_normal ?_
            refine awp_seq ?_
            refine awp_block ?_
            refine awp_seq ?_
            obtain ⟨hc12, h⟩ := chk_some h
            refine awp_region (rs := []) (cs := []) (live := [3, 5, 7, 24, 25, 26, 37, 38, 39]) (names := [5, 7, 15]) (st' := (⟨[(3, (AV.list 1 eU8 (0 : Int) l9 (.own 15))), (5, (.ptr 5 0)), (7, (.ptr 7 0)), (24, (Q159 a_f)), (25, (Q162 a_f)), (26, (.int .i64 i5)), (37, (Q174 a_f i5)), (38, (.int .i64 (Q172 a_f i5))), (39, (.int .i64 i10))], [(5, .row (Q158 a_f i5)), (7, .row (Q177 a_f i5 i10)), (15, .tok 1 5 l9.length)]⟩ : St)) (obs := [(InB i10 (Q161 a_f i5).length), (0 + List.length (α := AV) (eTPhi (Q170 a_f i5 i10)) ≤ List.length (α := AV) [Q167, Q167, Q165, Q165])]) hn mix (no_hand hΓ) (by kernel_rfl) ⟨hc12, (nl rfl), trivial⟩ ?_
            refine then_normal ?_
            obtain ⟨x13, hx13, h⟩ := bind_some h
            refine awp_region (rs := [⟨[(15, 32000)], [], (AV.list 1 eU8 (0 : Int) x13 (.own 32000)), [(32000, .tok 1 5 x13.length)]⟩]) (cs := []) (live := [3, 5, 24, 25, 26, 37, 38, 39]) (names := [5, 15]) (st' := (⟨[(3, (AV.list 1 eU8 (0 : Int) x13 (.own 15))), (5, (.ptr 5 0)), (24, (Q159 a_f)), (25, (Q162 a_f)), (26, (.int .i64 i5)), (37, (Q174 a_f i5)), (38, (.int .i64 (Q172 a_f i5))), (39, (.int .i64 i10))], [(5, .row (Q158 a_f i5)), (15, .tok 1 5 x13.length)]⟩ : St)) (obs := [(0 + 4 ≤ List.length (α := AV) (Q177 a_f i5 i10)), (Spec Try.prog 22 [(AV.list 1 eU8 (0 : Int) l9 (.own 32000)), (.agg (eTPhi (Q170 a_f i5 i10)))] [(32000, .tok 1 5 l9.length)] (AV.list 1 eU8 (0 : Int) x13 (.own 32000)) [(32000, .tok 1 5 x13.length)])]) hn mix (no_hand hΓ) (by kernel_rfl) ⟨(nl rfl), (ok_code_putPhi l9 (Q170 a_f i5 i10) x13 hx13), trivial⟩ ?_
            refine block_normal ?_
            refine then_normal ?_
            refine awp_region (rs := []) (cs := []) (live := [3, 5, 24, 25, 26, 37, 38, 39]) (names := [5, 15]) (st' := (⟨[(3, (AV.list 1 eU8 (0 : Int) x13 (.own 15))), (5, (.ptr 5 0)), (24, (Q159 a_f)), (25, (Q162 a_f)), (26, (.int .i64 i5)), (37, (Q174 a_f i5)), (38, (.int .i64 (Q172 a_f i5))), (39, (.int .i64 (w64 (i10 + (1 : Int)))))], [(5, .row (Q158 a_f i5)), (15, .tok 1 5 x13.length)]⟩ : St)) (obs := []) hn mix (no_hand hΓ) (by kernel_rfl) trivial ?_
            obtain rfl := Option.some.inj h
            exact ⟨rfl, Le.refl _ _⟩
          · replace h := cond_f hb h
            clear hb
            refine awp_exit ?_
            refine then_exit ?_
            obtain rfl := Option.some.inj h
            exact ⟨(by intro hh; cases hh), rfl, le_restrict_eq [3, 5, 24, 25, 26] [5, 15] (by kernel_rfl) (no_hand hΓ)⟩
        · clear hx14
          rintro e st' ⟨rfl, hl15⟩
          refine block_here ?_
          refine then_normal ?_
          refine awp_le hl15 ?_
          refine awp_seq ?_
          obtain ⟨x16, hx16, h⟩ := bind_some h
          refine awp_region (rs := [⟨[(15, 32000)], [], (AV.list 1 eU8 (0 : Int) x16 (.own 32000)), [(32000, .tok 1 5 x16.length)]⟩]) (cs := [(51, (AV.list 1 eI64 (0 : Int) ([(Q171 a_f i5)] : List (Int)) .exact))]) (live := [3, 5, 24, 25, 26]) (names := [5, 15]) (st' := (⟨[(3, (AV.list 1 eU8 (0 : Int) x16 (.own 15))), (5, (.ptr 5 0)), (24, (Q159 a_f)), (25, (Q162 a_f)), (26, (.int .i64 i5))], [(5, .row (Q158 a_f i5)), (15, .tok 1 5 x16.length)]⟩ : St)) (obs := [(1 < List.length (α := AV) (Q158 a_f i5)), (AVle (.slice 1 1 (fun i => ([[(.int .i64 (Q171 a_f i5))]] : List (List AV)).getD i []) .exact) (AV.list 1 eI64 (0 : Int) ([(Q171 a_f i5)] : List (Int)) .exact)), (Spec Try.prog 20 [(AV.list 1 eU8 (0 : Int) x14 (.own 32000)), (AV.list 1 eI64 (0 : Int) ([(Q171 a_f i5)] : List (Int)) .none)] [(32000, .tok 1 5 x14.length)] (AV.list 1 eU8 (0 : Int) x16 (.own 32000)) [(32000, .tok 1 5 x16.length)])]) hn mix (no_hand hΓ) (by kernel_rfl) ⟨(nl rfl), (av_lit rfl (fun i hi => map_get (e := eI64) (d := (0 : Int)) ([(Q171 a_f i5)] : List (Int)) i hi)), (ok_code_put x14 ([(Q171 a_f i5)] : List (Int)) x16 hx16), trivial⟩ ?_
          refine then_normal ?_
          refine awp_seq ?_
          refine awp_seq ?_
          refine awp_region (rs := []) (cs := []) (live := [3, 5, 24, 25, 26, 54, 55, 56]) (names := [5, 15]) (st' := (⟨[(3, (AV.list 1 eU8 (0 : Int) x16 (.own 15))), (5, (.ptr 5 0)), (24, (Q159 a_f)), (25, (Q162 a_f)), (26, (.int .i64 i5)), (54, (Q179 a_f i5)), (55, (.int .i64 (Q171 a_f i5))), (56, Q167)], [(5, .row (Q158 a_f i5)), (15, .tok 1 5 x16.length)]⟩ : St)) (obs := [(1 < List.length (α := AV) (Q158 a_f i5))]) hn mix (no_hand hΓ) (by kernel_rfl) ⟨(nl rfl), trivial⟩ ?_
          refine then_normal ?_
          refine awp_block ?_
          refine awp_le (st' := (fun ((l17, i18) : (List (Int) × Int)) => (Q175 l17 a_f i5 i18)) (x16, (0 : Int))) (Le.refl _ _) ?_
          obtain ⟨x22, hx22, h⟩ := bind_some h
          refine awp_loop (fun ((l17, i18) : (List (Int) × Int)) => (Q175 l17 a_f i5 i18)) _ (fun (l19 : List (Int)) (e : Exit) (st : St) => e = (.exit 4) ∧ Le Γ st (⟨[(3, (AV.list 1 eU8 (0 : Int) l19 (.own 15))), (5, (.ptr 5 0)), (24, (Q159 a_f)), (25, (Q162 a_f)), (26, (.int .i64 i5))], [(5, .row (Q158 a_f i5)), (15, .tok 1 5 l19.length)]⟩ : St)) ?_ hx22 ?_
          · rintro ⟨l17, i18⟩ y h
            unfold m_code_Encode_L2 at h
            refine awp_seq ?_
            refine awp_region (rs := []) (cs := []) (live := [3, 5, 24, 25, 26, 54, 55, 56, 57]) (names := [5, 15]) (st' := (⟨[(3, (AV.list 1 eU8 (0 : Int) l17 (.own 15))), (5, (.ptr 5 0)), (24, (Q159 a_f)), (25, (Q162 a_f)), (26, (.int .i64 i5)), (54, (Q179 a_f i5)), (55, (.int .i64 (Q171 a_f i5))), (56, (.int .i64 i18)), (57, (.bool (decide ((i18 : Int) < (Q171 a_f i5)))))], [(5, .row (Q158 a_f i5)), (15, .tok 1 5 l17.length)]⟩ : St)) (obs := []) hn mix (no_hand hΓ) (by kernel_rfl) trivial ?_
            refine then_normal ?_
            refine awp_seq ?_
            refine awp_cond (decide ((i18 : Int) < (Q171 a_f i5))) (by kernel_rfl) (fun hb => ?_) (fun hb => ?_)
            · replace h := cond_t hb h
              clear hb
              refine awp_skip ?_
              refine then_normal ?_
              refine awp_seq ?_
              refine awp_block ?_
              refine awp_seq ?_
              obtain ⟨hc20, h⟩ := chk_some h
              refine awp_region (rs := []) (cs := []) (live := [3, 5, 9, 24, 25, 26, 54, 55, 56]) (names := [5, 9, 15]) (st' := (⟨[(3, (AV.list 1 eU8 (0 : Int) l17 (.own 15))), (5, (.ptr 5 0)), (9, (.ptr 9 0)), (24, (Q159 a_f)), (25, (Q162 a_f)), (26, (.int .i64 i5)), (54, (Q179 a_f i5)), (55, (.int .i64 (Q171 a_f i5))), (56, (.int .i64 i18))], [(5, .row (Q158 a_f i5)), (9, .row (Q176 a_f i5 i18)), (15, .tok 1 5 l17.length)]⟩ : St)) (obs := [(InB i18 (Q160 a_f i5).length), (0 + List.length (α := AV) (eTOp (Q169 a_f i5 i18)) ≤ List.length (α := AV) [Q167, Q167, Q167, Q167, Q165, (.int .u64 (0 : Int))])]) hn mix (no_hand hΓ) (by kernel_rfl) ⟨hc20, (nl rfl), trivial⟩ ?_
              refine then_normal ?_
              obtain ⟨x21, hx21, h⟩ := bind_some h
              refine awp_region (rs := [⟨[(15, 32000)], [], (AV.list 1 eU8 (0 : Int) x21 (.own 32000)), [(32000, .tok 1 5 x21.length)]⟩]) (cs := []) (live := [3, 5, 24, 25, 26, 54, 55, 56]) (names := [5, 15]) (st' := (⟨[(3, (AV.list 1 eU8 (0 : Int) x21 (.own 15))), (5, (.ptr 5 0)), (24, (Q159 a_f)), (25, (Q162 a_f)), (26, (.int .i64 i5)), (54, (Q179 a_f i5)), (55, (.int .i64 (Q171 a_f i5))), (56, (.int .i64 i18))], [(5, .row (Q158 a_f i5)), (15, .tok 1 5 x21.length)]⟩ : St)) (obs := [(0 + 6 ≤ List.length (α := AV) (Q176 a_f i5 i18)), (Spec Try.prog 23 [(AV.list 1 eU8 (0 : Int) l17 (.own 32000)), (.agg (eTOp (Q169 a_f i5 i18)))] [(32000, .tok 1 5 l17.length)] (AV.list 1 eU8 (0 : Int) x21 (.own 32000)) [(32000, .tok 1 5 x21.length)])]) hn mix (no_hand hΓ) (by kernel_rfl) ⟨(nl rfl), (ok_code_putOp l17 (Q169 a_f i5 i18) x21 hx21), trivial⟩ ?_
              refine block_normal ?_
              refine then_normal ?_
              refine awp_region (rs := []) (cs := []) (live := [3, 5, 24, 25, 26, 54, 55, 56]) (names := [5, 15]) (st' := (⟨[(3, (AV.list 1 eU8 (0 : Int) x21 (.own 15))), (5, (.ptr 5 0)), (24, (Q159 a_f)), (25, (Q162 a_f)), (26, (.int .i64 i5)), (54, (Q179 a_f i5)), (55, (.int .i64 (Q171 a_f i5))), (56, (.int .i64 (w64 (i18 + (1 : Int)))))], [(5, .row (Q158 a_f i5)), (15, .tok 1 5 x21.length)]⟩ : St)) (obs := []) hn mix (no_hand hΓ) (by kernel_rfl) trivial ?_
              obtain rfl := Option.some.inj h
              exact ⟨rfl, Le.refl _ _⟩
            · replace h := cond_f hb h
              clear hb
              refine awp_exit ?_
              refine then_exit ?_
              obtain rfl := Option.some.inj h
              exact ⟨(by intro hh; cases hh), rfl, le_restrict_eq [3, 5, 24, 25, 26] [5, 15] (by kernel_rfl) (no_hand hΓ)⟩
          · clear hx22
            rintro e st' ⟨rfl, hl23⟩
            refine block_here ?_
            refine then_normal ?_
            refine awp_le hl23 ?_
            obtain ⟨x24, hx24, h⟩ := bind_some h
            refine awp_region (rs := [⟨[(15, 32000)], [], (AV.list 1 eU8 (0 : Int) x24 (.own 32000)), [(32000, .tok 1 5 x24.length)]⟩]) (cs := []) (live := [3, 24, 25, 26]) (names := [15]) (st' := (⟨[(3, (AV.list 1 eU8 (0 : Int) x24 (.own 15))), (24, (Q159 a_f)), (25, (Q162 a_f)), (26, (.int .i64 i5))], [(15, .tok 1 5 x24.length)]⟩ : St)) (obs := [(2 + 3 ≤ List.length (α := AV) (Q158 a_f i5)), (Spec Try.prog 24 [(AV.list 1 eU8 (0 : Int) x22 (.own 32000)), (.agg [(.int .i64 (Q168 a_f i5).End.Kind), (.int .i64 (Q168 a_f i5).End.Arg), (AV.list 1 eI64 (0 : Int) (Q168 a_f i5).End.To .none)])] [(32000, .tok 1 5 x22.length)] (AV.list 1 eU8 (0 : Int) x24 (.own 32000)) [(32000, .tok 1 5 x24.length)])]) hn mix (no_hand hΓ) (by kernel_rfl) ⟨(nl rfl), (ok_code_putEnd x22 (⟨(Q168 a_f i5).End.Kind, (Q168 a_f i5).End.Arg, (Q168 a_f i5).End.To⟩ : TEnd) x24 hx24), trivial⟩ ?_
            refine block_normal ?_
            refine then_normal ?_
            refine awp_region (rs := []) (cs := []) (live := [3, 24, 25, 26]) (names := [15]) (st' := (⟨[(3, (AV.list 1 eU8 (0 : Int) x24 (.own 15))), (24, (Q159 a_f)), (25, (Q162 a_f)), (26, (.int .i64 (w64 (i5 + (1 : Int)))))], [(15, .tok 1 5 x24.length)]⟩ : St)) (obs := []) hn mix (no_hand hΓ) (by kernel_rfl) trivial ?_
            obtain rfl := Option.some.inj h
            exact ⟨rfl, Le.refl _ _⟩
      · replace h := cond_f hb h
        clear hb
        refine awp_exit ?_
        refine then_exit ?_
        obtain rfl := Option.some.inj h
        exact ⟨(by intro hh; cases hh), rfl, le_restrict_eq [3] [15] (by kernel_rfl) (no_hand hΓ)⟩
    · clear hx25
      rintro e st' ⟨rfl, hl26⟩
      refine block_here ?_
      refine then_normal ?_
      refine awp_le hl26 ?_
      refine awp_seq ?_
      refine awp_region (rs := []) (cs := []) (live := [2]) (names := [15]) (st' := (⟨[(2, (AV.list 1 eU8 (0 : Int) x25 (.own 15)))], [(15, .tok 1 5 x25.length)]⟩ : St)) (obs := []) hn mix (no_hand hΓ) (by kernel_rfl) trivial ?_
      refine then_normal ?_
      refine awp_ret ?_
      obtain rfl := Option.some.inj h
      exact ⟨.inl rfl, [(15, 20000)], by kernel_rfl⟩

noncomputable def m_lockstepref02_Same_L1 (a_a : List (Int)) (a_b : List (Int)) : Int → Option (LR Int (Unit ⊕ Bool)) :=
  fun (i1 : Int) => (bif (decide ((i1 : Int) < (a_a.length : Int))) then (chk (InB i1 a_a.length) (chk (InB i1 a_b.length) (bif (((a_a.getD (i1).toNat (0 : Int)) : Int) != (a_b.getD (i1).toNat (0 : Int))) then (some (.done (.inr false))) else (some (.next (w64 (i1 + (1 : Int)))))))) else (some (.done (.inl ()))))
noncomputable def Q180 (a_a : List (Int)) : AV := (AV.list 1 eU8 (0 : Int) a_a .none)
noncomputable def Q181 (a_b : List (Int)) : AV := (AV.list 1 eU8 (0 : Int) a_b .none)
noncomputable def m_lockstepref02_Same (a_a : List (Int)) (a_b : List (Int)) : Option Bool :=
  (bif (((a_a.length : Int) : Int) != (a_b.length : Int)) then (some false) else ((loopO (S := Int) (X := (Unit ⊕ Bool)) (m_lockstepref02_Same_L1 a_a a_b) (0 : Int)).bind (fun x4 => (match x4 with | (.inl _) => (some true) | (.inr r6) => (some r6)))))
theorem ok_lockstepref02_Same (a_a : List (Int)) (a_b : List (Int)) (r : Bool) (h : m_lockstepref02_Same a_a a_b = some r) : Spec Try.prog 15 [(AV.list 1 eU8 (0 : Int) a_a .none), (AV.list 1 eU8 (0 : Int) a_b .none)] [] (.bool r) [] := by
  refine spec_of_awp (fn := Try.f15) Try.func15 rfl rfl (by kernel_rfl) (fun Γ hn hΓ => ?_)
  have hn : Γ.n = 26 := hn
  unfold m_lockstepref02_Same at h
  refine awp_seq ?_
  refine awp_region (rs := []) (cs := []) (live := [0, 1]) (names := []) (st' := (⟨[(0, (Q180 a_a)), (1, (Q181 a_b))], []⟩ : St)) (obs := []) hn mix (no_hand hΓ) (by kernel_rfl) trivial ?_
  refine then_normal ?_
  refine awp_seq ?_
  refine awp_seq ?_
  refine awp_region (rs := []) (cs := []) (live := [0, 1, 10]) (names := []) (st' := (⟨[(0, (Q180 a_a)), (1, (Q181 a_b)), (10, (.bool (((a_a.length : Int) : Int) != (a_b.length : Int))))], []⟩ : St)) (obs := []) hn mix (no_hand hΓ) (by kernel_rfl) trivial ?_
  refine then_normal ?_
  refine awp_cond (((a_a.length : Int) : Int) != (a_b.length : Int)) (by kernel_rfl) (fun hb => ?_) (fun hb => ?_)
  · replace h := cond_t hb h
    clear hb
    refine awp_seq ?_
    refine awp_region (rs := []) (cs := []) (live := [4]) (names := []) (st' := (⟨[(4, (.bool false))], []⟩ : St)) (obs := []) hn mix (no_hand hΓ) (by kernel_rfl) trivial ?_
    refine then_normal ?_
    refine awp_ret ?_
    refine then_ret ?_
    obtain rfl := Option.some.inj h
    exact ⟨.inl rfl, [], by kernel_rfl⟩
  · replace h := cond_f hb h
    clear hb
    refine awp_skip ?_
    refine then_normal ?_
    refine awp_seq ?_
    refine awp_seq ?_
    refine awp_region (rs := []) (cs := []) (live := [0, 1, 5]) (names := []) (st' := (⟨[(0, (Q180 a_a)), (1, (Q181 a_b)), (5, (.int .i64 (0 : Int)))], []⟩ : St)) (obs := []) hn mix (no_hand hΓ) (by kernel_rfl) trivial ?_
    refine then_normal ?_
    refine awp_block ?_
    refine awp_le (st' := (fun (i1 : Int) => (⟨[(0, (Q180 a_a)), (1, (Q181 a_b)), (5, (.int .i64 i1))], []⟩ : St)) (0 : Int)) (Le.refl _ _) ?_
    obtain ⟨x4, hx4, h⟩ := bind_some h
    refine awp_loop (fun (i1 : Int) => (⟨[(0, (Q180 a_a)), (1, (Q181 a_b)), (5, (.int .i64 i1))], []⟩ : St)) _ (fun (x_ : (Unit ⊕ Bool)) (e : Exit) (st : St) => match x_ with | (.inl _) => e = (.exit 0) ∧ Le Γ st (⟨[], []⟩ : St) | (.inr r_) => e = .ret ∧ retK Try.prog Try.f15.results.toList [] (.bool r_) [] e st) ?_ hx4 ?_
    · intro i1 y h
      unfold m_lockstepref02_Same_L1 at h
      refine awp_seq ?_
      refine awp_seq ?_
      refine awp_region (rs := []) (cs := []) (live := [0, 1, 5, 14]) (names := []) (st' := (⟨[(0, (Q180 a_a)), (1, (Q181 a_b)), (5, (.int .i64 i1)), (14, (.bool (decide ((i1 : Int) < (a_a.length : Int)))))], []⟩ : St)) (obs := []) hn mix (no_hand hΓ) (by kernel_rfl) trivial ?_
      refine then_normal ?_
      refine awp_cond (decide ((i1 : Int) < (a_a.length : Int))) (by kernel_rfl) (fun hb => ?_) (fun hb => ?_)
      · replace h := cond_t hb h
        clear hb
        refine awp_skip ?_
        refine then_normal ?_
        refine awp_seq ?_
        refine awp_block ?_
        refine awp_seq ?_
        obtain ⟨hc2, h⟩ := chk_some h
        obtain ⟨hc3, h⟩ := chk_some h
        refine awp_region (rs := []) (cs := []) (live := [0, 1, 5, 25]) (names := []) (st' := (⟨[(0, (Q180 a_a)), (1, (Q181 a_b)), (5, (.int .i64 i1)), (25, (.bool (((a_a.getD (i1).toNat (0 : Int)) : Int) != (a_b.getD (i1).toNat (0 : Int)))))], []⟩ : St)) (obs := [(InB i1 a_a.length), (InB i1 a_b.length)]) hn mix (no_hand hΓ) (by kernel_rfl) ⟨hc2, hc3, trivial⟩ ?_
        refine then_normal ?_
        refine awp_cond (((a_a.getD (i1).toNat (0 : Int)) : Int) != (a_b.getD (i1).toNat (0 : Int))) (by kernel_rfl) (fun hb => ?_) (fun hb => ?_)
        · replace h := cond_t hb h
          clear hb
          refine awp_seq ?_
          refine awp_region (rs := []) (cs := []) (live := [4]) (names := []) (st' := (⟨[(4, (.bool false))], []⟩ : St)) (obs := []) hn mix (no_hand hΓ) (by kernel_rfl) trivial ?_
          refine then_normal ?_
          refine awp_ret ?_
          refine block_ret ?_
          refine then_ret ?_
          obtain rfl := Option.some.inj h
          exact ⟨(by intro hh; cases hh), rfl, ⟨.inl rfl, [], by kernel_rfl⟩⟩
        · replace h := cond_f hb h
          clear hb
          refine awp_skip ?_
          refine block_normal ?_
          refine then_normal ?_
          refine awp_region (rs := []) (cs := []) (live := [0, 1, 5]) (names := []) (st' := (⟨[(0, (Q180 a_a)), (1, (Q181 a_b)), (5, (.int .i64 (w64 (i1 + (1 : Int)))))], []⟩ : St)) (obs := []) hn mix (no_hand hΓ) (by kernel_rfl) trivial ?_
          obtain rfl := Option.some.inj h
          exact ⟨rfl, Le.refl _ _⟩
      · replace h := cond_f hb h
        clear hb
        refine awp_exit ?_
        refine then_exit ?_
        obtain rfl := Option.some.inj h
        exact ⟨(by intro hh; cases hh), rfl, le_restrict_eq [] [] (by kernel_rfl) (no_hand hΓ)⟩
    · clear hx4
      rcases x4 with _ | r6
      · rintro e st' ⟨rfl, hl5⟩
        refine block_here ?_
        refine then_normal ?_
        refine awp_le hl5 ?_
        refine awp_seq ?_
        refine awp_region (rs := []) (cs := []) (live := [4]) (names := []) (st' := (⟨[(4, (.bool true))], []⟩ : St)) (obs := []) hn mix (no_hand hΓ) (by kernel_rfl) trivial ?_
        refine then_normal ?_
        refine awp_ret ?_
        obtain rfl := Option.some.inj h
        exact ⟨.inl rfl, [], by kernel_rfl⟩
      · rintro e st' ⟨rfl, hk⟩
        refine block_ret ?_
        refine then_ret ?_
        obtain rfl := Option.some.inj h
        exact hk

noncomputable def Q198 (x1 : (TFunc × Int)) := (bif ((x1.2 : Int) == (0 : Int)) then ((x1.1.Ret : Int) == (8 : Int)) else false)
noncomputable def Q182 (x1 : (TFunc × Int)) := (bif (bif (bif (Q198 x1) then (((x1.1.Blocks.length : Int) : Int) == (1 : Int)) else false) then (((((x1.1.Blocks.getD ((0 : Int)).toNat (default : TBlock)).Ops).length : Int) : Int) == (1 : Int)) else false) then (((((x1.1.Blocks.getD ((0 : Int)).toNat (default : TBlock)).Ops).getD ((0 : Int)).toNat (default : TOp)).Imm : Int) == (5 : Int)) else false)
noncomputable def Q197 (x1 : (TFunc × Int)) := ((Q182 x1) == true)
noncomputable def Q183 := ([(0 : Int), (8 : Int), (1 : Int), (0 : Int), (1 : Int), (0 : Int), (8 : Int), (1 : Int), (1 : Int), (0 : Int), (5 : Int), (0 : Int), (1 : Int), (0 : Int)] : List (Int))
noncomputable def Q196 := (([] : List Int) ++ Q183)
noncomputable def Q190 := ([(0 : Int)] : List (Int))
noncomputable def Q189 (x3 : (TFunc × Int)) := ((x3.2 : Int) == (2 : Int))
noncomputable def Q192 (x6 : (TFunc × Int)) := ((x6.2 : Int) == (3 : Int))
noncomputable def Q193 (x1 : (TFunc × Int)) := (((x1.2 : Int) == (0 : Int)) == true)
noncomputable def Q199 : AV := (AV.list 1 eU8 (0 : Int) Q183 .exact)
noncomputable def Q186 (x1 : (TFunc × Int)) := (((x1.1.Blocks.getD ((0 : Int)).toNat (default : TBlock)).End.Arg : Int) == (1 : Int))
noncomputable def Q194 (x1 : (TFunc × Int)) (x12 : Bool) (x3 : (TFunc × Int)) := (bif (bif (bif (Q182 x1) then (Q186 x1) else false) then x12 else false) then (Q189 x3) else false)
noncomputable def Q201 (x1 : (TFunc × Int)) (x12 : Bool) (x3 : (TFunc × Int)) (x6 : (TFunc × Int)) := (bif (Q194 x1 x12 x3) then (Q192 x6) else false)
noncomputable def Q195 (x1 : (TFunc × Int)) := ((bif (Q182 x1) then (Q186 x1) else false) == true)
noncomputable def Q200 (x1 : (TFunc × Int)) (x12 : Bool) := ((bif (bif (Q182 x1) then (Q186 x1) else false) then x12 else false) == true)
noncomputable def Q188 (x1 : (TFunc × Int)) := ((Q198 x1) == true)
noncomputable def Q191 : List AV := [(.slice 0 0 (fun _ => []) .exact), (.int .i64 (0 : Int)), (.slice 0 0 (fun _ => []) .exact)]
noncomputable def Q187 (x1 : (TFunc × Int)) : List AV := [(AV.list 1 eI64 (0 : Int) x1.1.Params .none), (.int .i64 x1.1.Ret), (AV.list 5 eTBlock (default : TBlock) x1.1.Blocks .none)]
noncomputable def Q185 (x1 : (TFunc × Int)) := ((bif (Q198 x1) then (((x1.1.Blocks.length : Int) : Int) == (1 : Int)) else false) == true)
noncomputable def Q184 (x1 : (TFunc × Int)) := ((bif (bif (Q198 x1) then (((x1.1.Blocks.length : Int) : Int) == (1 : Int)) else false) then (((((x1.1.Blocks.getD ((0 : Int)).toNat (default : TBlock)).Ops).length : Int) : Int) == (1 : Int)) else false) == true)
noncomputable def m_locksteplaw04_awake  : Option Bool :=
  ((m_code_Decode ([(0 : Int), (8 : Int), (1 : Int), (0 : Int), (1 : Int), (0 : Int), (8 : Int), (1 : Int), (1 : Int), (0 : Int), (5 : Int), (0 : Int), (1 : Int), (0 : Int)] : List (Int))).bind fun x1 => (chk (0 ≤ (5 : Int) ∧ (5 : Int) ≤ (([(0 : Int), (8 : Int), (1 : Int), (0 : Int), (1 : Int), (0 : Int), (8 : Int), (1 : Int), (1 : Int), (0 : Int), (5 : Int), (0 : Int), (1 : Int), (0 : Int)] : List (Int)).length : Int)) ((m_code_Decode (([(0 : Int), (8 : Int), (1 : Int), (0 : Int), (1 : Int), (0 : Int), (8 : Int), (1 : Int), (1 : Int), (0 : Int), (5 : Int), (0 : Int), (1 : Int), (0 : Int)] : List (Int)).take ((5 : Int)).toNat)).bind fun x3 => (chk (([] : List Int).length + ([(0 : Int), (8 : Int), (1 : Int), (0 : Int), (1 : Int), (0 : Int), (8 : Int), (1 : Int), (1 : Int), (0 : Int), (5 : Int), (0 : Int), (1 : Int), (0 : Int)] : List (Int)).length ≤ room) (chk ((([] : List Int) ++ ([(0 : Int), (8 : Int), (1 : Int), (0 : Int), (1 : Int), (0 : Int), (8 : Int), (1 : Int), (1 : Int), (0 : Int), (5 : Int), (0 : Int), (1 : Int), (0 : Int)] : List (Int))).length + ([(0 : Int)] : List (Int)).length ≤ room) ((m_code_Decode ((([] : List Int) ++ ([(0 : Int), (8 : Int), (1 : Int), (0 : Int), (1 : Int), (0 : Int), (8 : Int), (1 : Int), (1 : Int), (0 : Int), (5 : Int), (0 : Int), (1 : Int), (0 : Int)] : List (Int))) ++ ([(0 : Int)] : List (Int)))).bind fun x6 => (chk (((bif (bif ((x1.2 : Int) == (0 : Int)) then ((x1.1.Ret : Int) == (8 : Int)) else false) then (((x1.1.Blocks.length : Int) : Int) == (1 : Int)) else false) == true) = true → (InB (0 : Int) x1.1.Blocks.length)) (chk (((bif (bif (bif ((x1.2 : Int) == (0 : Int)) then ((x1.1.Ret : Int) == (8 : Int)) else false) then (((x1.1.Blocks.length : Int) : Int) == (1 : Int)) else false) then (((((x1.1.Blocks.getD ((0 : Int)).toNat (default : TBlock)).Ops).length : Int) : Int) == (1 : Int)) else false) == true) = true → (InB (0 : Int) x1.1.Blocks.length)) (chk (((bif (bif (bif ((x1.2 : Int) == (0 : Int)) then ((x1.1.Ret : Int) == (8 : Int)) else false) then (((x1.1.Blocks.length : Int) : Int) == (1 : Int)) else false) then (((((x1.1.Blocks.getD ((0 : Int)).toNat (default : TBlock)).Ops).length : Int) : Int) == (1 : Int)) else false) == true) = true → (InB (0 : Int) ((x1.1.Blocks.getD ((0 : Int)).toNat (default : TBlock)).Ops).length)) (chk (((bif (bif (bif (bif ((x1.2 : Int) == (0 : Int)) then ((x1.1.Ret : Int) == (8 : Int)) else false) then (((x1.1.Blocks.length : Int) : Int) == (1 : Int)) else false) then (((((x1.1.Blocks.getD ((0 : Int)).toNat (default : TBlock)).Ops).length : Int) : Int) == (1 : Int)) else false) then (((((x1.1.Blocks.getD ((0 : Int)).toNat (default : TBlock)).Ops).getD ((0 : Int)).toNat (default : TOp)).Imm : Int) == (5 : Int)) else false) == true) = true → (InB (0 : Int) x1.1.Blocks.length)) ((bif ((bif (bif (bif (bif (bif ((x1.2 : Int) == (0 : Int)) then ((x1.1.Ret : Int) == (8 : Int)) else false) then (((x1.1.Blocks.length : Int) : Int) == (1 : Int)) else false) then (((((x1.1.Blocks.getD ((0 : Int)).toNat (default : TBlock)).Ops).length : Int) : Int) == (1 : Int)) else false) then (((((x1.1.Blocks.getD ((0 : Int)).toNat (default : TBlock)).Ops).getD ((0 : Int)).toNat (default : TOp)).Imm : Int) == (5 : Int)) else false) then (((x1.1.Blocks.getD ((0 : Int)).toNat (default : TBlock)).End.Arg : Int) == (1 : Int)) else false) == true) then m_code_Encode x1.1 else some []).bind fun x11 => ((bif ((bif (bif (bif (bif (bif ((x1.2 : Int) == (0 : Int)) then ((x1.1.Ret : Int) == (8 : Int)) else false) then (((x1.1.Blocks.length : Int) : Int) == (1 : Int)) else false) then (((((x1.1.Blocks.getD ((0 : Int)).toNat (default : TBlock)).Ops).length : Int) : Int) == (1 : Int)) else false) then (((((x1.1.Blocks.getD ((0 : Int)).toNat (default : TBlock)).Ops).getD ((0 : Int)).toNat (default : TOp)).Imm : Int) == (5 : Int)) else false) then (((x1.1.Blocks.getD ((0 : Int)).toNat (default : TBlock)).End.Arg : Int) == (1 : Int)) else false) == true) then m_lockstepref02_Same x11 ([(0 : Int), (8 : Int), (1 : Int), (0 : Int), (1 : Int), (0 : Int), (8 : Int), (1 : Int), (1 : Int), (0 : Int), (5 : Int), (0 : Int), (1 : Int), (0 : Int)] : List (Int)) else some false).bind fun x12 => ((bif ((bif (bif (bif (bif (bif (bif (bif (bif ((x1.2 : Int) == (0 : Int)) then ((x1.1.Ret : Int) == (8 : Int)) else false) then (((x1.1.Blocks.length : Int) : Int) == (1 : Int)) else false) then (((((x1.1.Blocks.getD ((0 : Int)).toNat (default : TBlock)).Ops).length : Int) : Int) == (1 : Int)) else false) then (((((x1.1.Blocks.getD ((0 : Int)).toNat (default : TBlock)).Ops).getD ((0 : Int)).toNat (default : TOp)).Imm : Int) == (5 : Int)) else false) then (((x1.1.Blocks.getD ((0 : Int)).toNat (default : TBlock)).End.Arg : Int) == (1 : Int)) else false) then x12 else false) then ((x3.2 : Int) == (2 : Int)) else false) then ((x6.2 : Int) == (3 : Int)) else false) == true) then m_code_Size x1.1 else some (0 : Int)).bind fun x13 => (some (bif (bif (bif (bif (bif (bif (bif (bif (bif ((x1.2 : Int) == (0 : Int)) then ((x1.1.Ret : Int) == (8 : Int)) else false) then (((x1.1.Blocks.length : Int) : Int) == (1 : Int)) else false) then (((((x1.1.Blocks.getD ((0 : Int)).toNat (default : TBlock)).Ops).length : Int) : Int) == (1 : Int)) else false) then (((((x1.1.Blocks.getD ((0 : Int)).toNat (default : TBlock)).Ops).getD ((0 : Int)).toNat (default : TOp)).Imm : Int) == (5 : Int)) else false) then (((x1.1.Blocks.getD ((0 : Int)).toNat (default : TBlock)).End.Arg : Int) == (1 : Int)) else false) then x12 else false) then ((x3.2 : Int) == (2 : Int)) else false) then ((x6.2 : Int) == (3 : Int)) else false) then ((x13 : Int) == (2 : Int)) else false)))))))))))))))
theorem ok_locksteplaw04_awake  (r : Bool) (h : m_locksteplaw04_awake = some r) : Spec Try.prog 8 [] [] (.bool r) [] := by
  refine spec_of_awp (fn := Try.f8) Try.func8 rfl rfl (by kernel_rfl) (fun Γ hn hΓ => ?_)
  have hn : Γ.n = 90 := hn
  unfold m_locksteplaw04_awake at h
  refine awp_seq ?_
  refine awp_region (rs := []) (cs := []) (live := []) (names := []) (st' := (⟨[], []⟩ : St)) (obs := []) hn mix (no_hand hΓ) (by kernel_rfl) trivial ?_
  refine then_normal ?_
  refine awp_seq ?_
  refine awp_region (rs := []) (cs := [(8, Q199)]) (live := [1]) (names := []) (st' := (⟨[(1, Q199)], []⟩ : St)) (obs := [(AVle (.slice 1 14 (fun i => ([[(.int .u8 (0 : Int))], [(.int .u8 (8 : Int))], [(.int .u8 (1 : Int))], [(.int .u8 (0 : Int))], [(.int .u8 (1 : Int))], [(.int .u8 (0 : Int))], [(.int .u8 (8 : Int))], [(.int .u8 (1 : Int))], [(.int .u8 (1 : Int))], [(.int .u8 (0 : Int))], [(.int .u8 (5 : Int))], [(.int .u8 (0 : Int))], [(.int .u8 (1 : Int))], [(.int .u8 (0 : Int))]] : List (List AV)).getD i []) .exact) Q199)]) hn mix (no_hand hΓ) (by kernel_rfl) ⟨(av_lit rfl (fun i hi => map_get (e := eU8) (d := (0 : Int)) Q183 i hi)), trivial⟩ ?_
  refine then_normal ?_
  refine awp_seq ?_
  obtain ⟨x1, hx1, h⟩ := bind_some h
  refine awp_region (rs := [⟨[], [], (.tuple [(.agg (eTFunc x1.1)), (.int .i64 x1.2)]), []⟩]) (cs := []) (live := [1, 2, 3]) (names := [2]) (st' := (⟨[(1, Q199), (2, (.ptr 2 0)), (3, (.int .i64 x1.2))], [(2, .row (Q187 x1))]⟩ : St)) (obs := [(Spec Try.prog 17 [(AV.list 1 eU8 (0 : Int) Q183 .none)] [] (.tuple [(.agg (eTFunc x1.1)), (.int .i64 x1.2)]) []), (0 + List.length (α := AV) (eTFunc x1.1) ≤ List.length (α := AV) Q191)]) hn mix (no_hand hΓ) (by kernel_rfl) ⟨(ok_code_Decode Q183 x1 hx1), (nl rfl), trivial⟩ ?_
  refine then_normal ?_
  refine awp_seq ?_
  obtain ⟨hc2, h⟩ := chk_some h
  obtain ⟨x3, hx3, h⟩ := bind_some h
  refine awp_region (rs := [⟨[], [], (.tuple [(.agg (eTFunc x3.1)), (.int .i64 x3.2)]), []⟩]) (cs := [(16, (AV.list 1 eU8 (0 : Int) (Q183.take ((5 : Int)).toNat) .none))]) (live := [1, 2, 3, 5]) (names := [2]) (st' := (⟨[(1, Q199), (2, (.ptr 2 0)), (3, (.int .i64 x1.2)), (5, (.int .i64 x3.2))], [(2, .row (Q187 x1))]⟩ : St)) (obs := [(0 ≤ (5 : Int) ∧ (5 : Int) ≤ (Q183.length : Int)), (AVle (.slice 1 ((5 : Int)).toNat (fun i => eU8 (Q183.getD i (0 : Int))) .none) (AV.list 1 eU8 (0 : Int) (Q183.take ((5 : Int)).toNat) .none)), (Spec Try.prog 17 [(AV.list 1 eU8 (0 : Int) (Q183.take ((5 : Int)).toNat) .none)] [] (.tuple [(.agg (eTFunc x3.1)), (.int .i64 x3.2)]) []), (0 + List.length (α := AV) (eTFunc x3.1) ≤ List.length (α := AV) Q191)]) hn mix (no_hand hΓ) (by kernel_rfl) ⟨hc2, (av_take (toNat_le2 hc2)), (ok_code_Decode (Q183.take ((5 : Int)).toNat) x3 hx3), (nl rfl), trivial⟩ ?_
  refine then_normal ?_
  refine awp_seq ?_
  obtain ⟨hc4, h⟩ := chk_some h
  obtain ⟨hc5, h⟩ := chk_some h
  obtain ⟨x6, hx6, h⟩ := bind_some h
  refine awp_region (rs := [⟨[], [], (.tuple [(.agg (eTFunc x6.1)), (.int .i64 x6.2)]), []⟩]) (cs := [(21, (AV.list 1 eU8 (0 : Int) ([] : List Int) .exact)), (23, (AV.list 1 eU8 (0 : Int) Q196 (.own 23))), (24, (AV.list 1 eU8 (0 : Int) Q190 .exact)), (25, (AV.list 1 eU8 (0 : Int) (Q196 ++ Q190) (.own 23)))]) (live := [1, 2, 3, 5, 7]) (names := [2]) (st' := (⟨[(1, Q199), (2, (.ptr 2 0)), (3, (.int .i64 x1.2)), (5, (.int .i64 x3.2)), (7, (.int .i64 x6.2))], [(2, .row (Q187 x1))]⟩ : St)) (obs := [(AVle (.slice 1 0 (fun i => ([] : List (List AV)).getD i []) .exact) (AV.list 1 eU8 (0 : Int) ([] : List Int) .exact)), (([] : List Int).length + Q183.length ≤ room), (AVle (.slice 1 (([] : List Int).length + Q183.length) (appF ([] : List Int).length (fun i => eU8 (([] : List Int).getD i (0 : Int))) (fun i => eU8 (Q183.getD i (0 : Int)))) (.own 23)) (AV.list 1 eU8 (0 : Int) Q196 (.own 23))), (([] : List Int).length + Q183.length = Q196.length), (AVle (.slice 1 1 (fun i => ([[(.int .u8 (0 : Int))]] : List (List AV)).getD i []) .exact) (AV.list 1 eU8 (0 : Int) Q190 .exact)), (Q196.length = Q196.length), (Q196.length + Q190.length ≤ room), (AVle (.slice 1 (Q196.length + Q190.length) (appF Q196.length (fun i => eU8 (Q196.getD i (0 : Int))) (fun i => eU8 (Q190.getD i (0 : Int)))) (.own 23)) (AV.list 1 eU8 (0 : Int) (Q196 ++ Q190) (.own 23))), (Q196.length + Q190.length = (Q196 ++ Q190).length), (Spec Try.prog 17 [(AV.list 1 eU8 (0 : Int) (Q196 ++ Q190) .none)] [] (.tuple [(.agg (eTFunc x6.1)), (.int .i64 x6.2)]) []), (0 + List.length (α := AV) (eTFunc x6.1) ≤ List.length (α := AV) Q191)]) hn mix (no_hand hΓ) (by kernel_rfl) ⟨av_lit rfl (fun i hi => absurd hi (Nat.not_lt_zero i)), hc4, av_app, (len_app _ _), (av_lit rfl (fun i hi => map_get (e := eU8) (d := (0 : Int)) Q190 i hi)), rfl, hc5, av_app, (len_app _ _), (ok_code_Decode (Q196 ++ Q190) x6 hx6), (nl rfl), trivial⟩ ?_
  refine then_normal ?_
  refine awp_seq ?_
  obtain ⟨hc7, h⟩ := chk_some h
  obtain ⟨hc8, h⟩ := chk_some h
  obtain ⟨hc9, h⟩ := chk_some h
  obtain ⟨hc10, h⟩ := chk_some h
  obtain ⟨x11, hx11, h⟩ := bind_some h
  obtain ⟨x12, hx12, h⟩ := bind_some h
  obtain ⟨x13, hx13, h⟩ := bind_some h
  refine awp_region (rs := [⟨[], [], (AV.list 1 eU8 (0 : Int) x11 .none), []⟩, ⟨[], [], (.bool x12), []⟩, ⟨[], [], (.int .i64 x13), []⟩]) (cs := []) (live := [0]) (names := []) (st' := (⟨[(0, (.bool (bif (Q201 x1 x12 x3 x6) then ((x13 : Int) == (2 : Int)) else false)))], []⟩ : St)) (obs := [((Q193 x1) = true → (Q193 x1) = true), ((Q193 x1) = true → (1 < List.length (α := AV) (Q187 x1))), ((Q193 x1) = true → (Q193 x1) = true), (((x1.2 : Int) == (0 : Int)) = true → (Q193 x1) = true), ((Q188 x1) = true → (Q188 x1) = true), ((Q188 x1) = true → (2 < List.length (α := AV) (Q187 x1))), ((Q188 x1) = true → (Q188 x1) = true), ((Q188 x1) = true → (Q188 x1) = true), ((Q198 x1) = true → (Q188 x1) = true), ((Q185 x1) = true → (Q185 x1) = true), ((Q185 x1) = true → (2 < List.length (α := AV) (Q187 x1))), ((Q185 x1) = true → (Q185 x1) = true), ((Q185 x1) = true → (InB (0 : Int) x1.1.Blocks.length)), ((Q185 x1) = true → (Q185 x1) = true), ((Q185 x1) = true → (Q185 x1) = true), ((Q185 x1) = true → (Q185 x1) = true), ((Q185 x1) = true → (Q185 x1) = true), ((bif (Q198 x1) then (((x1.1.Blocks.length : Int) : Int) == (1 : Int)) else false) = true → (Q185 x1) = true), ((Q184 x1) = true → (Q184 x1) = true), ((Q184 x1) = true → (2 < List.length (α := AV) (Q187 x1))), ((Q184 x1) = true → (Q184 x1) = true), ((Q184 x1) = true → (InB (0 : Int) x1.1.Blocks.length)), ((Q184 x1) = true → (Q184 x1) = true), ((Q184 x1) = true → (Q184 x1) = true), ((Q184 x1) = true → (Q184 x1) = true), ((Q184 x1) = true → (InB (0 : Int) ((x1.1.Blocks.getD ((0 : Int)).toNat (default : TBlock)).Ops).length)), ((Q184 x1) = true → (Q184 x1) = true), ((Q184 x1) = true → (Q184 x1) = true), ((Q184 x1) = true → (Q184 x1) = true), ((bif (bif (Q198 x1) then (((x1.1.Blocks.length : Int) : Int) == (1 : Int)) else false) then (((((x1.1.Blocks.getD ((0 : Int)).toNat (default : TBlock)).Ops).length : Int) : Int) == (1 : Int)) else false) = true → (Q184 x1) = true), ((Q197 x1) = true → (Q197 x1) = true), ((Q197 x1) = true → (2 < List.length (α := AV) (Q187 x1))), ((Q197 x1) = true → (Q197 x1) = true), ((Q197 x1) = true → (InB (0 : Int) x1.1.Blocks.length)), ((Q197 x1) = true → (Q197 x1) = true), ((Q197 x1) = true → (Q197 x1) = true), ((Q197 x1) = true → (Q197 x1) = true), ((Q197 x1) = true → (Q197 x1) = true), ((Q182 x1) = true → (Q197 x1) = true), ((Q195 x1) = true → (0 + 3 ≤ List.length (α := AV) (Q187 x1))), ((Q195 x1) = true → (Q195 x1) = true), ((Q195 x1) = true → (Spec Try.prog 10 [(.agg (eTFunc x1.1))] [] (AV.list 1 eU8 (0 : Int) x11 .none) [])), ((Q195 x1) = true → (Q195 x1) = true), ((Q195 x1) = true → (Q195 x1) = true), ((Q195 x1) = true → (Spec Try.prog 15 [(AV.list 1 eU8 (0 : Int) x11 .none), (AV.list 1 eU8 (0 : Int) Q183 .none)] [] (.bool x12) [])), ((bif (Q182 x1) then (Q186 x1) else false) = true → (Q195 x1) = true), ((Q200 x1 x12) = true → (Q200 x1 x12) = true), ((bif (bif (Q182 x1) then (Q186 x1) else false) then x12 else false) = true → (Q200 x1 x12) = true), (((Q194 x1 x12 x3) == true) = true → ((Q194 x1 x12 x3) == true) = true), ((Q194 x1 x12 x3) = true → ((Q194 x1 x12 x3) == true) = true), (((Q201 x1 x12 x3 x6) == true) = true → (0 + 3 ≤ List.length (α := AV) (Q187 x1))), (((Q201 x1 x12 x3 x6) == true) = true → ((Q201 x1 x12 x3 x6) == true) = true), (((Q201 x1 x12 x3 x6) == true) = true → (Spec Try.prog 13 [(.agg (eTFunc x1.1))] [] (.int .i64 x13) [])), (((Q201 x1 x12 x3 x6) == true) = true → ((Q201 x1 x12 x3 x6) == true) = true), ((Q201 x1 x12 x3 x6) = true → ((Q201 x1 x12 x3 x6) == true) = true)]) hn mix (no_hand hΓ) (by kernel_rfl) ⟨(fun hg => hg), (fun hg => (nl rfl)), (fun hg => hg), gT, (fun hg => hg), (fun hg => (nl rfl)), (fun hg => hg), (fun hg => hg), gT, (fun hg => hg), (fun hg => (nl rfl)), (fun hg => hg), (fun hg => (hc7 hg)), (fun hg => hg), (fun hg => hg), (fun hg => hg), (fun hg => hg), gT, (fun hg => hg), (fun hg => (nl rfl)), (fun hg => hg), (fun hg => (hc8 hg)), (fun hg => hg), (fun hg => hg), (fun hg => hg), (fun hg => (hc9 hg)), (fun hg => hg), (fun hg => hg), (fun hg => hg), gT, (fun hg => hg), (fun hg => (nl rfl)), (fun hg => hg), (fun hg => (hc10 hg)), (fun hg => hg), (fun hg => hg), (fun hg => hg), (fun hg => hg), gT, (fun hg => (nl rfl)), (fun hg => hg), (fun hg => (Spec.drop (ok_code_Encode x1.1 x11 (cond_t hg hx11)))), (fun hg => hg), (fun hg => hg), (fun hg => (ok_lockstepref02_Same x11 Q183 x12 (cond_t hg hx12))), gT, (fun hg => hg), gT, (fun hg => hg), gT, (fun hg => (nl rfl)), (fun hg => hg), (fun hg => (ok_code_Size x1.1 x13 (cond_t hg hx13))), (fun hg => hg), gT, trivial⟩ ?_
  refine then_normal ?_
  refine awp_ret ?_
  obtain rfl := Option.some.inj h
  exact ⟨.inl rfl, [], by kernel_rfl⟩

noncomputable def m_lockstepref04_Small_L1 (a_f : TFunc) (i2 : Int) : (Int × Int) → Option (LR (Int × Int) Int) :=
  fun ((i5, i6) : (Int × Int)) => (chk (InB i2 a_f.Blocks.length) (bif (bif (decide ((i6 : Int) < (((a_f.Blocks.getD (i2).toNat (default : TBlock)).Phis).length : Int))) then (decide ((i5 : Int) ≤ (20000 : Int))) else false) then (chk (InB i2 a_f.Blocks.length) (chk (InB i6 ((a_f.Blocks.getD (i2).toNat (default : TBlock)).Phis).length) (chk (InB i2 a_f.Blocks.length) (chk (InB i6 ((a_f.Blocks.getD (i2).toNat (default : TBlock)).Phis).length) (some (.next ((w64 ((w64 ((w64 (i5 + (1 : Int))) + (((((a_f.Blocks.getD (i2).toNat (default : TBlock)).Phis).getD (i6).toNat (default : TPhi)).From).length : Int))) + (((((a_f.Blocks.getD (i2).toNat (default : TBlock)).Phis).getD (i6).toNat (default : TPhi)).Args).length : Int))), (w64 (i6 + (1 : Int)))))))))) else (some (.done i5))))
noncomputable def m_lockstepref04_Small_L2 (a_f : TFunc) (i2 : Int) : (Int × Int) → Option (LR (Int × Int) Int) :=
  fun ((i15, i16) : (Int × Int)) => (chk (InB i2 a_f.Blocks.length) (bif (bif (decide ((i16 : Int) < (((a_f.Blocks.getD (i2).toNat (default : TBlock)).Ops).length : Int))) then (decide ((i15 : Int) ≤ (20000 : Int))) else false) then (chk (InB i2 a_f.Blocks.length) (chk (InB i16 ((a_f.Blocks.getD (i2).toNat (default : TBlock)).Ops).length) (some (.next ((w64 ((w64 (i15 + (1 : Int))) + (((((a_f.Blocks.getD (i2).toNat (default : TBlock)).Ops).getD (i16).toNat (default : TOp)).Args).length : Int))), (w64 (i16 + (1 : Int)))))))) else (some (.done i15))))
noncomputable def m_lockstepref04_Small_L3 (a_f : TFunc) : (Int × Int) → Option (LR (Int × Int) Int) :=
  fun ((i1, i2) : (Int × Int)) => (bif (bif (decide ((i2 : Int) < (a_f.Blocks.length : Int))) then (decide ((i1 : Int) ≤ (20000 : Int))) else false) then (chk (InB i2 a_f.Blocks.length) ((loopO (S := (Int × Int)) (X := Int) (m_lockstepref04_Small_L1 a_f i2) ((w64 ((w64 (i1 + (1 : Int))) + (((a_f.Blocks.getD (i2).toNat (default : TBlock)).End.To).length : Int))), (0 : Int))).bind (fun x13 => (((loopO (S := (Int × Int)) (X := Int) (m_lockstepref04_Small_L2 a_f i2) (x13, (0 : Int))).bind (fun x21 => ((some (.next (x21, (w64 (i2 + (1 : Int))))))))))))) else (some (.done i1)))
noncomputable def Q202 (a_f : TFunc) : List AV := [(AV.list 1 eI64 (0 : Int) a_f.Params .none), (.int .i64 a_f.Ret), (AV.list 5 eTBlock (default : TBlock) a_f.Blocks .none)]
noncomputable def Q205 (a_f : TFunc) : List (Nat × Own) := [(1, .row (Q202 a_f))]
noncomputable def Q203 (a_f : TFunc) (i2 : Int) := (a_f.Blocks.getD (i2).toNat (default : TBlock))
noncomputable def Q204 (i2 : Int) (a_f : TFunc) := (decide ((i2 : Int) < (a_f.Blocks.length : Int)))
noncomputable def Q206 (i16 : Int) (a_f : TFunc) (i2 : Int) := (decide ((i16 : Int) < (((Q203 a_f i2).Ops).length : Int)))
noncomputable def Q207 (i6 : Int) (a_f : TFunc) (i2 : Int) := (decide ((i6 : Int) < (((Q203 a_f i2).Phis).length : Int)))
noncomputable def Q208 (i5 : Int) (a_f : TFunc) (i2 : Int) (i6 : Int) : AV := (.int .i64 (w64 ((w64 ((w64 (i5 + (1 : Int))) + (((((Q203 a_f i2).Phis).getD (i6).toNat (default : TPhi)).From).length : Int))) + (((((Q203 a_f i2).Phis).getD (i6).toNat (default : TPhi)).Args).length : Int))))
noncomputable def m_lockstepref04_Small (a_f : TFunc) : Option Bool :=
  ((loopO (S := (Int × Int)) (X := Int) (m_lockstepref04_Small_L3 a_f) ((a_f.Params.length : Int), (0 : Int))).bind (fun x23 => ((some (decide ((x23 : Int) ≤ (20000 : Int)))))))
theorem ok_lockstepref04_Small (a_f : TFunc) (r : Bool) (h : m_lockstepref04_Small a_f = some r) : Spec Try.prog 9 [(.agg (eTFunc a_f))] [] (.bool r) [] := by
  refine spec_of_awp (fn := Try.f9) Try.func9 rfl rfl (by kernel_rfl) (fun Γ hn hΓ => ?_)
  have hn : Γ.n = 104 := hn
  unfold m_lockstepref04_Small at h
  refine awp_seq ?_
  refine awp_region (rs := []) (cs := []) (live := [1]) (names := [1]) (st' := (⟨[(1, (.ptr 1 0))], (Q205 a_f)⟩ : St)) (obs := []) hn mix (no_hand hΓ) (by kernel_rfl) trivial ?_
  refine then_normal ?_
  refine awp_seq ?_
  refine awp_region (rs := []) (cs := []) (live := [1, 3]) (names := [1]) (st' := (⟨[(1, (.ptr 1 0)), (3, (.int .i64 (a_f.Params.length : Int)))], (Q205 a_f)⟩ : St)) (obs := [(0 < List.length (α := AV) (Q202 a_f))]) hn mix (no_hand hΓ) (by kernel_rfl) ⟨(nl rfl), trivial⟩ ?_
  refine then_normal ?_
  refine awp_seq ?_
  refine awp_seq ?_
  refine awp_region (rs := []) (cs := []) (live := [1, 3, 4]) (names := [1]) (st' := (⟨[(1, (.ptr 1 0)), (3, (.int .i64 (a_f.Params.length : Int))), (4, (.int .i64 (0 : Int)))], (Q205 a_f)⟩ : St)) (obs := []) hn mix (no_hand hΓ) (by kernel_rfl) trivial ?_
  refine then_normal ?_
  refine awp_block ?_
  refine awp_le (st' := (fun ((i1, i2) : (Int × Int)) => (⟨[(1, (.ptr 1 0)), (3, (.int .i64 i1)), (4, (.int .i64 i2))], (Q205 a_f)⟩ : St)) ((a_f.Params.length : Int), (0 : Int))) (Le.refl _ _) ?_
  obtain ⟨x23, hx23, h⟩ := bind_some h
  refine awp_loop (fun ((i1, i2) : (Int × Int)) => (⟨[(1, (.ptr 1 0)), (3, (.int .i64 i1)), (4, (.int .i64 i2))], (Q205 a_f)⟩ : St)) _ (fun (i3 : Int) (e : Exit) (st : St) => e = (.exit 0) ∧ Le Γ st (⟨[(3, (.int .i64 i3))], []⟩ : St)) ?_ hx23 ?_
  · rintro ⟨i1, i2⟩ y h
    unfold m_lockstepref04_Small_L3 at h
    refine awp_seq ?_
    refine awp_seq ?_
    refine awp_region (rs := []) (cs := []) (live := [1, 3, 4, 18]) (names := [1]) (st' := (⟨[(1, (.ptr 1 0)), (3, (.int .i64 i1)), (4, (.int .i64 i2)), (18, (.bool (bif (Q204 i2 a_f) then (decide ((i1 : Int) ≤ (20000 : Int))) else false)))], (Q205 a_f)⟩ : St)) (obs := [(2 < List.length (α := AV) (Q202 a_f)), (((Q204 i2 a_f) == true) = true → ((Q204 i2 a_f) == true) = true), ((Q204 i2 a_f) = true → ((Q204 i2 a_f) == true) = true)]) hn mix (no_hand hΓ) (by kernel_rfl) ⟨(nl rfl), (fun hg => hg), gT, trivial⟩ ?_
    refine then_normal ?_
    refine awp_cond (bif (Q204 i2 a_f) then (decide ((i1 : Int) ≤ (20000 : Int))) else false) (by kernel_rfl) (fun hb => ?_) (fun hb => ?_)
    · replace h := cond_t hb h
      clear hb
      refine awp_skip ?_
      refine then_normal ?_
      refine awp_seq ?_
      refine awp_block ?_
      refine awp_seq ?_
      obtain ⟨hc4, h⟩ := chk_some h
      refine awp_region (rs := []) (cs := []) (live := [1, 3, 4]) (names := [1]) (st' := (⟨[(1, (.ptr 1 0)), (3, (.int .i64 (w64 ((w64 (i1 + (1 : Int))) + (((Q203 a_f i2).End.To).length : Int))))), (4, (.int .i64 i2))], (Q205 a_f)⟩ : St)) (obs := [(2 < List.length (α := AV) (Q202 a_f)), (InB i2 a_f.Blocks.length)]) hn mix (no_hand hΓ) (by kernel_rfl) ⟨(nl rfl), hc4, trivial⟩ ?_
      refine then_normal ?_
      refine awp_seq ?_
      refine awp_seq ?_
      refine awp_region (rs := []) (cs := []) (live := [1, 3, 4, 5]) (names := [1]) (st' := (⟨[(1, (.ptr 1 0)), (3, (.int .i64 (w64 ((w64 (i1 + (1 : Int))) + (((Q203 a_f i2).End.To).length : Int))))), (4, (.int .i64 i2)), (5, (.int .i64 (0 : Int)))], (Q205 a_f)⟩ : St)) (obs := []) hn mix (no_hand hΓ) (by kernel_rfl) trivial ?_
      refine then_normal ?_
      refine awp_block ?_
      refine awp_le (st' := (fun ((i5, i6) : (Int × Int)) => (⟨[(1, (.ptr 1 0)), (3, (.int .i64 i5)), (4, (.int .i64 i2)), (5, (.int .i64 i6))], (Q205 a_f)⟩ : St)) ((w64 ((w64 (i1 + (1 : Int))) + (((Q203 a_f i2).End.To).length : Int))), (0 : Int))) (Le.refl _ _) ?_
      obtain ⟨x13, hx13, h⟩ := bind_some h
      refine awp_loop (fun ((i5, i6) : (Int × Int)) => (⟨[(1, (.ptr 1 0)), (3, (.int .i64 i5)), (4, (.int .i64 i2)), (5, (.int .i64 i6))], (Q205 a_f)⟩ : St)) _ (fun (i7 : Int) (e : Exit) (st : St) => e = (.exit 2) ∧ Le Γ st (⟨[(1, (.ptr 1 0)), (3, (.int .i64 i7)), (4, (.int .i64 i2))], (Q205 a_f)⟩ : St)) ?_ hx13 ?_
      · rintro ⟨i5, i6⟩ y h
        unfold m_lockstepref04_Small_L1 at h
        refine awp_seq ?_
        refine awp_seq ?_
        obtain ⟨hc8, h⟩ := chk_some h
        refine awp_region (rs := []) (cs := []) (live := [1, 3, 4, 5, 44]) (names := [1]) (st' := (⟨[(1, (.ptr 1 0)), (3, (.int .i64 i5)), (4, (.int .i64 i2)), (5, (.int .i64 i6)), (44, (.bool (bif (Q207 i6 a_f i2) then (decide ((i5 : Int) ≤ (20000 : Int))) else false)))], (Q205 a_f)⟩ : St)) (obs := [(2 < List.length (α := AV) (Q202 a_f)), (InB i2 a_f.Blocks.length), (((Q207 i6 a_f i2) == true) = true → ((Q207 i6 a_f i2) == true) = true), ((Q207 i6 a_f i2) = true → ((Q207 i6 a_f i2) == true) = true)]) hn mix (no_hand hΓ) (by kernel_rfl) ⟨(nl rfl), hc8, (fun hg => hg), gT, trivial⟩ ?_
        refine then_normal ?_
        refine awp_cond (bif (Q207 i6 a_f i2) then (decide ((i5 : Int) ≤ (20000 : Int))) else false) (by kernel_rfl) (fun hb => ?_) (fun hb => ?_)
        · replace h := cond_t hb h
          clear hb
          refine awp_skip ?_
          refine then_normal ?_
          refine awp_seq ?_
          refine awp_block ?_
          obtain ⟨hc9, h⟩ := chk_some h
          obtain ⟨hc10, h⟩ := chk_some h
          obtain ⟨hc11, h⟩ := chk_some h
          obtain ⟨hc12, h⟩ := chk_some h
          refine awp_region (rs := []) (cs := []) (live := [1, 3, 4, 5]) (names := [1]) (st' := (⟨[(1, (.ptr 1 0)), (3, (Q208 i5 a_f i2 i6)), (4, (.int .i64 i2)), (5, (.int .i64 i6))], (Q205 a_f)⟩ : St)) (obs := [(2 < List.length (α := AV) (Q202 a_f)), (InB i2 a_f.Blocks.length), (InB i6 ((Q203 a_f i2).Phis).length), (2 < List.length (α := AV) (Q202 a_f)), (InB i2 a_f.Blocks.length), (InB i6 ((Q203 a_f i2).Phis).length)]) hn mix (no_hand hΓ) (by kernel_rfl) ⟨(nl rfl), hc9, hc10, (nl rfl), hc11, hc12, trivial⟩ ?_
          refine block_normal ?_
          refine then_normal ?_
          refine awp_region (rs := []) (cs := []) (live := [1, 3, 4, 5]) (names := [1]) (st' := (⟨[(1, (.ptr 1 0)), (3, (Q208 i5 a_f i2 i6)), (4, (.int .i64 i2)), (5, (.int .i64 (w64 (i6 + (1 : Int)))))], (Q205 a_f)⟩ : St)) (obs := []) hn mix (no_hand hΓ) (by kernel_rfl) trivial ?_
          obtain rfl := Option.some.inj h
          exact ⟨rfl, Le.refl _ _⟩
        · replace h := cond_f hb h
          clear hb
          refine awp_exit ?_
          refine then_exit ?_
          obtain rfl := Option.some.inj h
          exact ⟨(by intro hh; cases hh), rfl, le_restrict_eq [1, 3, 4] [1] (by kernel_rfl) (no_hand hΓ)⟩
      · clear hx13
        rintro e st' ⟨rfl, hl14⟩
        refine block_here ?_
        refine then_normal ?_
        refine awp_le hl14 ?_
        refine awp_seq ?_
        refine awp_region (rs := []) (cs := []) (live := [1, 3, 4, 6]) (names := [1]) (st' := (⟨[(1, (.ptr 1 0)), (3, (.int .i64 x13)), (4, (.int .i64 i2)), (6, (.int .i64 (0 : Int)))], (Q205 a_f)⟩ : St)) (obs := []) hn mix (no_hand hΓ) (by kernel_rfl) trivial ?_
        refine then_normal ?_
        refine awp_block ?_
        refine awp_le (st' := (fun ((i15, i16) : (Int × Int)) => (⟨[(1, (.ptr 1 0)), (3, (.int .i64 i15)), (4, (.int .i64 i2)), (6, (.int .i64 i16))], (Q205 a_f)⟩ : St)) (x13, (0 : Int))) (Le.refl _ _) ?_
        obtain ⟨x21, hx21, h⟩ := bind_some h
        refine awp_loop (fun ((i15, i16) : (Int × Int)) => (⟨[(1, (.ptr 1 0)), (3, (.int .i64 i15)), (4, (.int .i64 i2)), (6, (.int .i64 i16))], (Q205 a_f)⟩ : St)) _ (fun (i17 : Int) (e : Exit) (st : St) => e = (.exit 4) ∧ Le Γ st (⟨[(1, (.ptr 1 0)), (3, (.int .i64 i17)), (4, (.int .i64 i2))], (Q205 a_f)⟩ : St)) ?_ hx21 ?_
        · rintro ⟨i15, i16⟩ y h
          unfold m_lockstepref04_Small_L2 at h
          refine awp_seq ?_
          refine awp_seq ?_
          obtain ⟨hc18, h⟩ := chk_some h
          refine awp_region (rs := []) (cs := []) (live := [1, 3, 4, 6, 85]) (names := [1]) (st' := (⟨[(1, (.ptr 1 0)), (3, (.int .i64 i15)), (4, (.int .i64 i2)), (6, (.int .i64 i16)), (85, (.bool (bif (Q206 i16 a_f i2) then (decide ((i15 : Int) ≤ (20000 : Int))) else false)))], (Q205 a_f)⟩ : St)) (obs := [(2 < List.length (α := AV) (Q202 a_f)), (InB i2 a_f.Blocks.length), (((Q206 i16 a_f i2) == true) = true → ((Q206 i16 a_f i2) == true) = true), ((Q206 i16 a_f i2) = true → ((Q206 i16 a_f i2) == true) = true)]) hn mix (no_hand hΓ) (by kernel_rfl) ⟨(nl rfl), hc18, (fun hg => hg), gT, trivial⟩ ?_
          refine then_normal ?_
          refine awp_cond (bif (Q206 i16 a_f i2) then (decide ((i15 : Int) ≤ (20000 : Int))) else false) (by kernel_rfl) (fun hb => ?_) (fun hb => ?_)
          · replace h := cond_t hb h
            clear hb
            refine awp_skip ?_
            refine then_normal ?_
            refine awp_seq ?_
            refine awp_block ?_
            obtain ⟨hc19, h⟩ := chk_some h
            obtain ⟨hc20, h⟩ := chk_some h
            refine awp_region (rs := []) (cs := []) (live := [1, 3, 4, 6]) (names := [1]) (st' := (⟨[(1, (.ptr 1 0)), (3, (.int .i64 (w64 ((w64 (i15 + (1 : Int))) + (((((Q203 a_f i2).Ops).getD (i16).toNat (default : TOp)).Args).length : Int))))), (4, (.int .i64 i2)), (6, (.int .i64 i16))], (Q205 a_f)⟩ : St)) (obs := [(2 < List.length (α := AV) (Q202 a_f)), (InB i2 a_f.Blocks.length), (InB i16 ((Q203 a_f i2).Ops).length)]) hn mix (no_hand hΓ) (by kernel_rfl) ⟨(nl rfl), hc19, hc20, trivial⟩ ?_
            refine block_normal ?_
            refine then_normal ?_
            refine awp_region (rs := []) (cs := []) (live := [1, 3, 4, 6]) (names := [1]) (st' := (⟨[(1, (.ptr 1 0)), (3, (.int .i64 (w64 ((w64 (i15 + (1 : Int))) + (((((Q203 a_f i2).Ops).getD (i16).toNat (default : TOp)).Args).length : Int))))), (4, (.int .i64 i2)), (6, (.int .i64 (w64 (i16 + (1 : Int)))))], (Q205 a_f)⟩ : St)) (obs := []) hn mix (no_hand hΓ) (by kernel_rfl) trivial ?_
            obtain rfl := Option.some.inj h
            exact ⟨rfl, Le.refl _ _⟩
          · replace h := cond_f hb h
            clear hb
            refine awp_exit ?_
            refine then_exit ?_
            obtain rfl := Option.some.inj h
            exact ⟨(by intro hh; cases hh), rfl, le_restrict_eq [1, 3, 4] [1] (by kernel_rfl) (no_hand hΓ)⟩
        · clear hx21
          rintro e st' ⟨rfl, hl22⟩
          refine block_here ?_
          refine block_normal ?_
          refine then_normal ?_
          refine awp_le hl22 ?_
          refine awp_region (rs := []) (cs := []) (live := [1, 3, 4]) (names := [1]) (st' := (⟨[(1, (.ptr 1 0)), (3, (.int .i64 x21)), (4, (.int .i64 (w64 (i2 + (1 : Int)))))], (Q205 a_f)⟩ : St)) (obs := []) hn mix (no_hand hΓ) (by kernel_rfl) trivial ?_
          obtain rfl := Option.some.inj h
          exact ⟨rfl, Le.refl _ _⟩
    · replace h := cond_f hb h
      clear hb
      refine awp_exit ?_
      refine then_exit ?_
      obtain rfl := Option.some.inj h
      exact ⟨(by intro hh; cases hh), rfl, le_restrict_eq [3] [] (by kernel_rfl) (no_hand hΓ)⟩
  · clear hx23
    rintro e st' ⟨rfl, hl24⟩
    refine block_here ?_
    refine then_normal ?_
    refine awp_le hl24 ?_
    refine awp_seq ?_
    refine awp_region (rs := []) (cs := []) (live := [2]) (names := []) (st' := (⟨[(2, (.bool (decide ((x23 : Int) ≤ (20000 : Int)))))], []⟩ : St)) (obs := []) hn mix (no_hand hΓ) (by kernel_rfl) trivial ?_
    refine then_normal ?_
    refine awp_ret ?_
    obtain rfl := Option.some.inj h
    exact ⟨.inl rfl, [], by kernel_rfl⟩

noncomputable def m_lockstepref04_num (a_n : Int) : Option Bool :=
  (some (bif (decide (((0 : Int) : Int) ≤ a_n)) then (decide ((a_n : Int) ≤ (2147483647 : Int))) else false))
theorem ok_lockstepref04_num (a_n : Int) (r : Bool) (h : m_lockstepref04_num a_n = some r) : Spec Try.prog 29 [(.int .i64 a_n)] [] (.bool r) [] := by
  refine spec_of_awp (fn := Try.f29) Try.func29 rfl rfl (by kernel_rfl) (fun Γ hn hΓ => ?_)
  have hn : Γ.n = 9 := hn
  unfold m_lockstepref04_num at h
  refine awp_seq ?_
  refine awp_region (rs := []) (cs := []) (live := [0]) (names := []) (st' := (⟨[(0, (.int .i64 a_n))], []⟩ : St)) (obs := []) hn mix (no_hand hΓ) (by kernel_rfl) trivial ?_
  refine then_normal ?_
  refine awp_seq ?_
  refine awp_region (rs := []) (cs := []) (live := [2]) (names := []) (st' := (⟨[(2, (.bool (bif (decide (((0 : Int) : Int) ≤ a_n)) then (decide ((a_n : Int) ≤ (2147483647 : Int))) else false)))], []⟩ : St)) (obs := [(((decide (((0 : Int) : Int) ≤ a_n)) == true) = true → ((decide (((0 : Int) : Int) ≤ a_n)) == true) = true), ((decide (((0 : Int) : Int) ≤ a_n)) = true → ((decide (((0 : Int) : Int) ≤ a_n)) == true) = true)]) hn mix (no_hand hΓ) (by kernel_rfl) ⟨(fun hg => hg), gT, trivial⟩ ?_
  refine then_normal ?_
  refine awp_ret ?_
  obtain rfl := Option.some.inj h
  exact ⟨.inl rfl, [], by kernel_rfl⟩

noncomputable def m_lockstepref04_list_L1 (a_l : List (Int)) : Int → Option (LR Int (Unit ⊕ Bool)) :=
  fun (i1 : Int) => (bif (decide ((i1 : Int) < (a_l.length : Int))) then (chk (InB i1 a_l.length) ((m_lockstepref04_num (a_l.getD (i1).toNat (0 : Int))).bind fun x3 => (bif (!x3) then (some (.done (.inr false))) else (some (.next (w64 (i1 + (1 : Int)))))))) else (some (.done (.inl ()))))
noncomputable def Q209 (a_l : List (Int)) : AV := (AV.list 1 eI64 (0 : Int) a_l .none)
noncomputable def m_lockstepref04_list (a_l : List (Int)) : Option Bool :=
  ((loopO (S := Int) (X := (Unit ⊕ Bool)) (m_lockstepref04_list_L1 a_l) (0 : Int)).bind (fun x4 => (match x4 with | (.inl _) => (some (decide (((a_l.length : Int) : Int) ≤ (64 : Int)))) | (.inr r6) => (some r6))))
theorem ok_lockstepref04_list (a_l : List (Int)) (r : Bool) (h : m_lockstepref04_list a_l = some r) : Spec Try.prog 28 [(AV.list 1 eI64 (0 : Int) a_l .none)] [] (.bool r) [] := by
  refine spec_of_awp (fn := Try.f28) Try.func28 rfl rfl (by kernel_rfl) (fun Γ hn hΓ => ?_)
  have hn : Γ.n = 19 := hn
  unfold m_lockstepref04_list at h
  refine awp_seq ?_
  refine awp_region (rs := []) (cs := []) (live := [0]) (names := []) (st' := (⟨[(0, (Q209 a_l))], []⟩ : St)) (obs := []) hn mix (no_hand hΓ) (by kernel_rfl) trivial ?_
  refine then_normal ?_
  refine awp_seq ?_
  refine awp_seq ?_
  refine awp_region (rs := []) (cs := []) (live := [0, 3]) (names := []) (st' := (⟨[(0, (Q209 a_l)), (3, (.int .i64 (0 : Int)))], []⟩ : St)) (obs := []) hn mix (no_hand hΓ) (by kernel_rfl) trivial ?_
  refine then_normal ?_
  refine awp_block ?_
  refine awp_le (st' := (fun (i1 : Int) => (⟨[(0, (Q209 a_l)), (3, (.int .i64 i1))], []⟩ : St)) (0 : Int)) (Le.refl _ _) ?_
  obtain ⟨x4, hx4, h⟩ := bind_some h
  refine awp_loop (fun (i1 : Int) => (⟨[(0, (Q209 a_l)), (3, (.int .i64 i1))], []⟩ : St)) _ (fun (x_ : (Unit ⊕ Bool)) (e : Exit) (st : St) => match x_ with | (.inl _) => e = (.exit 0) ∧ Le Γ st (⟨[(0, (Q209 a_l))], []⟩ : St) | (.inr r_) => e = .ret ∧ retK Try.prog Try.f28.results.toList [] (.bool r_) [] e st) ?_ hx4 ?_
  · intro i1 y h
    unfold m_lockstepref04_list_L1 at h
    refine awp_seq ?_
    refine awp_seq ?_
    refine awp_region (rs := []) (cs := []) (live := [0, 3, 7]) (names := []) (st' := (⟨[(0, (Q209 a_l)), (3, (.int .i64 i1)), (7, (.bool (decide ((i1 : Int) < (a_l.length : Int)))))], []⟩ : St)) (obs := []) hn mix (no_hand hΓ) (by kernel_rfl) trivial ?_
    refine then_normal ?_
    refine awp_cond (decide ((i1 : Int) < (a_l.length : Int))) (by kernel_rfl) (fun hb => ?_) (fun hb => ?_)
    · replace h := cond_t hb h
      clear hb
      refine awp_skip ?_
      refine then_normal ?_
      refine awp_seq ?_
      refine awp_block ?_
      refine awp_seq ?_
      obtain ⟨hc2, h⟩ := chk_some h
      obtain ⟨x3, hx3, h⟩ := bind_some h
      refine awp_region (rs := [⟨[], [], (.bool x3), []⟩]) (cs := []) (live := [0, 3, 15]) (names := []) (st' := (⟨[(0, (Q209 a_l)), (3, (.int .i64 i1)), (15, (.bool (!x3)))], []⟩ : St)) (obs := [(InB i1 a_l.length), (Spec Try.prog 29 [(.int .i64 (a_l.getD (i1).toNat (0 : Int)))] [] (.bool x3) [])]) hn mix (no_hand hΓ) (by kernel_rfl) ⟨hc2, (ok_lockstepref04_num (a_l.getD (i1).toNat (0 : Int)) x3 hx3), trivial⟩ ?_
      refine then_normal ?_
      refine awp_cond (!x3) (by kernel_rfl) (fun hb => ?_) (fun hb => ?_)
      · replace h := cond_t hb h
        clear hb
        refine awp_seq ?_
        refine awp_region (rs := []) (cs := []) (live := [2]) (names := []) (st' := (⟨[(2, (.bool false))], []⟩ : St)) (obs := []) hn mix (no_hand hΓ) (by kernel_rfl) trivial ?_
        refine then_normal ?_
        refine awp_ret ?_
        refine block_ret ?_
        refine then_ret ?_
        obtain rfl := Option.some.inj h
        exact ⟨(by intro hh; cases hh), rfl, ⟨.inl rfl, [], by kernel_rfl⟩⟩
      · replace h := cond_f hb h
        clear hb
        refine awp_skip ?_
        refine block_normal ?_
        refine then_normal ?_
        refine awp_region (rs := []) (cs := []) (live := [0, 3]) (names := []) (st' := (⟨[(0, (Q209 a_l)), (3, (.int .i64 (w64 (i1 + (1 : Int)))))], []⟩ : St)) (obs := []) hn mix (no_hand hΓ) (by kernel_rfl) trivial ?_
        obtain rfl := Option.some.inj h
        exact ⟨rfl, Le.refl _ _⟩
    · replace h := cond_f hb h
      clear hb
      refine awp_exit ?_
      refine then_exit ?_
      obtain rfl := Option.some.inj h
      exact ⟨(by intro hh; cases hh), rfl, le_restrict_eq [0] [] (by kernel_rfl) (no_hand hΓ)⟩
  · clear hx4
    rcases x4 with _ | r6
    · rintro e st' ⟨rfl, hl5⟩
      refine block_here ?_
      refine then_normal ?_
      refine awp_le hl5 ?_
      refine awp_seq ?_
      refine awp_region (rs := []) (cs := []) (live := [2]) (names := []) (st' := (⟨[(2, (.bool (decide (((a_l.length : Int) : Int) ≤ (64 : Int)))))], []⟩ : St)) (obs := []) hn mix (no_hand hΓ) (by kernel_rfl) trivial ?_
      refine then_normal ?_
      refine awp_ret ?_
      obtain rfl := Option.some.inj h
      exact ⟨.inl rfl, [], by kernel_rfl⟩
    · rintro e st' ⟨rfl, hk⟩
      refine block_ret ?_
      refine then_ret ?_
      obtain rfl := Option.some.inj h
      exact hk

noncomputable def m_lockstepref04_Size_L1 (a_f : TFunc) : (Int × Int) → Option (LR (Int × Int) Int) :=
  fun ((i1, i2) : (Int × Int)) => (bif (decide ((i2 : Int) < (a_f.Blocks.length : Int))) then (chk (InB i2 a_f.Blocks.length) (chk (InB i2 a_f.Blocks.length) (some (.next ((w64 ((w64 ((w64 (i1 + (((a_f.Blocks.getD (i2).toNat (default : TBlock)).Phis).length : Int))) + (((a_f.Blocks.getD (i2).toNat (default : TBlock)).Ops).length : Int))) + (1 : Int))), (w64 (i2 + (1 : Int)))))))) else (some (.done i1)))
noncomputable def Q210 (a_f : TFunc) : List AV := [(AV.list 1 eI64 (0 : Int) a_f.Params .none), (.int .i64 a_f.Ret), (AV.list 5 eTBlock (default : TBlock) a_f.Blocks .none)]
noncomputable def Q211 (i1 : Int) (a_f : TFunc) (i2 : Int) : AV := (.int .i64 (w64 ((w64 ((w64 (i1 + (((a_f.Blocks.getD (i2).toNat (default : TBlock)).Phis).length : Int))) + (((a_f.Blocks.getD (i2).toNat (default : TBlock)).Ops).length : Int))) + (1 : Int))))
noncomputable def m_lockstepref04_Size (a_f : TFunc) : Option Int :=
  ((loopO (S := (Int × Int)) (X := Int) (m_lockstepref04_Size_L1 a_f) ((0 : Int), (0 : Int))).bind (fun x6 => ((some x6))))
theorem ok_lockstepref04_Size (a_f : TFunc) (r : Int) (h : m_lockstepref04_Size a_f = some r) : Spec Try.prog 14 [(.agg (eTFunc a_f))] [] (.int .i64 r) [] := by
  refine spec_of_awp (fn := Try.f14) Try.func14 rfl rfl (by kernel_rfl) (fun Γ hn hΓ => ?_)
  have hn : Γ.n = 31 := hn
  unfold m_lockstepref04_Size at h
  refine awp_seq ?_
  refine awp_region (rs := []) (cs := []) (live := [1]) (names := [1]) (st' := (⟨[(1, (.ptr 1 0))], [(1, .row (Q210 a_f))]⟩ : St)) (obs := []) hn mix (no_hand hΓ) (by kernel_rfl) trivial ?_
  refine then_normal ?_
  refine awp_seq ?_
  refine awp_region (rs := []) (cs := []) (live := [1, 3]) (names := [1]) (st' := (⟨[(1, (.ptr 1 0)), (3, (.int .i64 (0 : Int)))], [(1, .row (Q210 a_f))]⟩ : St)) (obs := []) hn mix (no_hand hΓ) (by kernel_rfl) trivial ?_
  refine then_normal ?_
  refine awp_seq ?_
  refine awp_seq ?_
  refine awp_region (rs := []) (cs := []) (live := [1, 3, 4]) (names := [1]) (st' := (⟨[(1, (.ptr 1 0)), (3, (.int .i64 (0 : Int))), (4, (.int .i64 (0 : Int)))], [(1, .row (Q210 a_f))]⟩ : St)) (obs := []) hn mix (no_hand hΓ) (by kernel_rfl) trivial ?_
  refine then_normal ?_
  refine awp_block ?_
  refine awp_le (st' := (fun ((i1, i2) : (Int × Int)) => (⟨[(1, (.ptr 1 0)), (3, (.int .i64 i1)), (4, (.int .i64 i2))], [(1, .row (Q210 a_f))]⟩ : St)) ((0 : Int), (0 : Int))) (Le.refl _ _) ?_
  obtain ⟨x6, hx6, h⟩ := bind_some h
  refine awp_loop (fun ((i1, i2) : (Int × Int)) => (⟨[(1, (.ptr 1 0)), (3, (.int .i64 i1)), (4, (.int .i64 i2))], [(1, .row (Q210 a_f))]⟩ : St)) _ (fun (i3 : Int) (e : Exit) (st : St) => e = (.exit 0) ∧ Le Γ st (⟨[(3, (.int .i64 i3))], []⟩ : St)) ?_ hx6 ?_
  · rintro ⟨i1, i2⟩ y h
    unfold m_lockstepref04_Size_L1 at h
    refine awp_seq ?_
    refine awp_seq ?_
    refine awp_region (rs := []) (cs := []) (live := [1, 3, 4, 9]) (names := [1]) (st' := (⟨[(1, (.ptr 1 0)), (3, (.int .i64 i1)), (4, (.int .i64 i2)), (9, (.bool (decide ((i2 : Int) < (a_f.Blocks.length : Int)))))], [(1, .row (Q210 a_f))]⟩ : St)) (obs := [(2 < List.length (α := AV) (Q210 a_f))]) hn mix (no_hand hΓ) (by kernel_rfl) ⟨(nl rfl), trivial⟩ ?_
    refine then_normal ?_
    refine awp_cond (decide ((i2 : Int) < (a_f.Blocks.length : Int))) (by kernel_rfl) (fun hb => ?_) (fun hb => ?_)
    · replace h := cond_t hb h
      clear hb
      refine awp_skip ?_
      refine then_normal ?_
      refine awp_seq ?_
      refine awp_block ?_
      obtain ⟨hc4, h⟩ := chk_some h
      obtain ⟨hc5, h⟩ := chk_some h
      refine awp_region (rs := []) (cs := []) (live := [1, 3, 4]) (names := [1]) (st' := (⟨[(1, (.ptr 1 0)), (3, (Q211 i1 a_f i2)), (4, (.int .i64 i2))], [(1, .row (Q210 a_f))]⟩ : St)) (obs := [(2 < List.length (α := AV) (Q210 a_f)), (InB i2 a_f.Blocks.length), (2 < List.length (α := AV) (Q210 a_f)), (InB i2 a_f.Blocks.length)]) hn mix (no_hand hΓ) (by kernel_rfl) ⟨(nl rfl), hc4, (nl rfl), hc5, trivial⟩ ?_
      refine block_normal ?_
      refine then_normal ?_
      refine awp_region (rs := []) (cs := []) (live := [1, 3, 4]) (names := [1]) (st' := (⟨[(1, (.ptr 1 0)), (3, (Q211 i1 a_f i2)), (4, (.int .i64 (w64 (i2 + (1 : Int)))))], [(1, .row (Q210 a_f))]⟩ : St)) (obs := []) hn mix (no_hand hΓ) (by kernel_rfl) trivial ?_
      obtain rfl := Option.some.inj h
      exact ⟨rfl, Le.refl _ _⟩
    · replace h := cond_f hb h
      clear hb
      refine awp_exit ?_
      refine then_exit ?_
      obtain rfl := Option.some.inj h
      exact ⟨(by intro hh; cases hh), rfl, le_restrict_eq [3] [] (by kernel_rfl) (no_hand hΓ)⟩
  · clear hx6
    rintro e st' ⟨rfl, hl7⟩
    refine block_here ?_
    refine then_normal ?_
    refine awp_le hl7 ?_
    refine awp_seq ?_
    refine awp_region (rs := []) (cs := []) (live := [2]) (names := []) (st' := (⟨[(2, (.int .i64 x6))], []⟩ : St)) (obs := []) hn mix (no_hand hΓ) (by kernel_rfl) trivial ?_
    refine then_normal ?_
    refine awp_ret ?_
    obtain rfl := Option.some.inj h
    exact ⟨.inl rfl, [], by kernel_rfl⟩

noncomputable def m_lockstepref04_May_L1 (a_f : TFunc) (i4 : Int) : Int → Option (LR Int (Unit ⊕ Bool)) :=
  fun (i6 : Int) => (bif (decide ((i6 : Int) < (((a_f.Blocks.getD (i4).toNat (default : TBlock)).Phis).length : Int))) then (chk (InB i6 ((a_f.Blocks.getD (i4).toNat (default : TBlock)).Phis).length) ((m_lockstepref04_num ((((a_f.Blocks.getD (i4).toNat (default : TBlock)).Phis).getD (i6).toNat (default : TPhi)).Bits)).bind fun x8 => ((bif ((!x8) == false) then m_lockstepref04_num ((((a_f.Blocks.getD (i4).toNat (default : TBlock)).Phis).getD (i6).toNat (default : TPhi)).Dst) else some false).bind fun x9 => ((bif ((bif (!x8) then true else (!x9)) == false) then m_lockstepref04_list ((((a_f.Blocks.getD (i4).toNat (default : TBlock)).Phis).getD (i6).toNat (default : TPhi)).From) else some false).bind fun x10 => ((bif ((bif (bif (!x8) then true else (!x9)) then true else (!x10)) == false) then m_lockstepref04_list ((((a_f.Blocks.getD (i4).toNat (default : TBlock)).Phis).getD (i6).toNat (default : TPhi)).Args) else some false).bind fun x11 => (bif (bif (bif (bif (!x8) then true else (!x9)) then true else (!x10)) then true else (!x11)) then (some (.done (.inr false))) else (some (.next (w64 (i6 + (1 : Int))))))))))) else (some (.done (.inl ()))))
noncomputable def m_lockstepref04_May_L2 (a_f : TFunc) (i4 : Int) : Int → Option (LR Int (Unit ⊕ Bool)) :=
  fun (i14 : Int) => (bif (decide ((i14 : Int) < (((a_f.Blocks.getD (i4).toNat (default : TBlock)).Ops).length : Int))) then (chk (InB i14 ((a_f.Blocks.getD (i4).toNat (default : TBlock)).Ops).length) ((m_lockstepref04_num ((((a_f.Blocks.getD (i4).toNat (default : TBlock)).Ops).getD (i14).toNat (default : TOp)).Kind)).bind fun x16 => ((bif ((!x16) == false) then m_lockstepref04_num ((((a_f.Blocks.getD (i4).toNat (default : TBlock)).Ops).getD (i14).toNat (default : TOp)).Bits) else some false).bind fun x17 => ((bif ((bif (!x16) then true else (!x17)) == false) then m_lockstepref04_num ((((a_f.Blocks.getD (i4).toNat (default : TBlock)).Ops).getD (i14).toNat (default : TOp)).Lanes) else some false).bind fun x18 => ((bif ((bif (bif (!x16) then true else (!x17)) then true else (!x18)) == false) then m_lockstepref04_num ((((a_f.Blocks.getD (i4).toNat (default : TBlock)).Ops).getD (i14).toNat (default : TOp)).Dst) else some false).bind fun x19 => ((bif ((bif (bif (bif (!x16) then true else (!x17)) then true else (!x18)) then true else (!x19)) == false) then m_lockstepref04_list ((((a_f.Blocks.getD (i4).toNat (default : TBlock)).Ops).getD (i14).toNat (default : TOp)).Args) else some false).bind fun x20 => (bif (bif (bif (bif (bif (!x16) then true else (!x17)) then true else (!x18)) then true else (!x19)) then true else (!x20)) then (some (.done (.inr false))) else (some (.next (w64 (i14 + (1 : Int)))))))))))) else (some (.done (.inl ()))))
noncomputable def m_lockstepref04_May_L3 (a_f : TFunc) : Int → Option (LR Int (Unit ⊕ Bool)) :=
  fun (i4 : Int) => (bif (decide ((i4 : Int) < (a_f.Blocks.length : Int))) then (chk (InB i4 a_f.Blocks.length) ((loopO (S := Int) (X := (Unit ⊕ Bool)) (m_lockstepref04_May_L1 a_f i4) (0 : Int)).bind (fun x12 => (match x12 with | (.inl _) => ((loopO (S := Int) (X := (Unit ⊕ Bool)) (m_lockstepref04_May_L2 a_f i4) (0 : Int)).bind (fun x21 => (match x21 with | (.inl _) => ((m_lockstepref04_num ((a_f.Blocks.getD (i4).toNat (default : TBlock)).End.Kind)).bind fun x23 => ((bif ((!x23) == false) then m_lockstepref04_num ((a_f.Blocks.getD (i4).toNat (default : TBlock)).End.Arg) else some false).bind fun x24 => ((bif ((bif (!x23) then true else (!x24)) == false) then m_lockstepref04_list ((a_f.Blocks.getD (i4).toNat (default : TBlock)).End.To) else some false).bind fun x25 => (bif (bif (bif (!x23) then true else (!x24)) then true else (!x25)) then (some (.done (.inr false))) else (some (.next (w64 (i4 + (1 : Int))))))))) | (.inr r26) => (some (.done (.inr r26)))))) | (.inr r27) => (some (.done (.inr r27))))))) else (some (.done (.inl ()))))
noncomputable def Q230 : AV := (.int .i64 (0 : Int))
noncomputable def Q231 : AV := (.slice 0 0 (fun _ => []) .exact)
noncomputable def Q213 (a_f : TFunc) := (bif (bif (((a_f.Blocks.length : Int) : Int) == (0 : Int)) then true else (decide (((64 : Int) : Int) < (a_f.Blocks.length : Int)))) then true else (decide (((16 : Int) : Int) < (a_f.Params.length : Int))))
noncomputable def Q226 (a_f : TFunc) (x1 : Bool) := (bif (Q213 a_f) then true else (!x1))
noncomputable def Q232 (a_f : TFunc) (x1 : Bool) (x2 : Bool) := (bif (Q226 a_f x1) then true else (!x2))
noncomputable def Q223 (x8 : Bool) (x9 : Bool) := ((bif (!x8) then true else (!x9)) == false)
noncomputable def Q220 (x23 : Bool) (x24 : Bool) := ((bif (!x23) then true else (!x24)) == false)
noncomputable def Q222 (x16 : Bool) (x17 : Bool) := ((bif (!x16) then true else (!x17)) == false)
noncomputable def Q217 (x16 : Bool) (x17 : Bool) (x18 : Bool) := (bif (bif (!x16) then true else (!x17)) then true else (!x18))
noncomputable def Q229 (x16 : Bool) (x17 : Bool) (x18 : Bool) (x19 : Bool) := (bif (Q217 x16 x17 x18) then true else (!x19))
noncomputable def Q215 (a_f : TFunc) : List AV := [(AV.list 1 eI64 (0 : Int) a_f.Params .none), (.int .i64 a_f.Ret), (AV.list 5 eTBlock (default : TBlock) a_f.Blocks .none)]
noncomputable def Q228 (a_f : TFunc) (i4 : Int) := (a_f.Blocks.getD (i4).toNat (default : TBlock))
noncomputable def Q212 (a_f : TFunc) (i4 : Int) : List AV := [(AV.list 4 eTPhi (default : TPhi) (Q228 a_f i4).Phis .none), (AV.list 6 eTOp (default : TOp) (Q228 a_f i4).Ops .none), (.int .i64 (Q228 a_f i4).End.Kind), (.int .i64 (Q228 a_f i4).End.Arg), (AV.list 1 eI64 (0 : Int) (Q228 a_f i4).End.To .none)]
noncomputable def Q227 (a_f : TFunc) (i4 : Int) : List (Nat × Own) := [(1, .row (Q215 a_f)), (4, .row (Q212 a_f i4))]
noncomputable def Q221 (a_f : TFunc) := ((((a_f.Blocks.length : Int) : Int) == (0 : Int)) == false)
noncomputable def Q219 (x8 : Bool) (x9 : Bool) (x10 : Bool) := (bif (bif (!x8) then true else (!x9)) then true else (!x10))
noncomputable def Q233 (i4 : Int) (a_f : TFunc) := (⟨[(1, (.ptr 1 0)), (3, (.int .i64 i4)), (4, (.ptr 4 0))], (Q227 a_f i4)⟩ : St)
noncomputable def Q214 (a_f : TFunc) (i4 : Int) (i14 : Int) := (((Q228 a_f i4).Ops).getD (i14).toNat (default : TOp))
noncomputable def Q216 (a_f : TFunc) (i4 : Int) (i6 : Int) := (((Q228 a_f i4).Phis).getD (i6).toNat (default : TPhi))
noncomputable def Q235 (i4 : Int) (a_f : TFunc) := (fun (i6 : Int) => (⟨[(1, (.ptr 1 0)), (3, (.int .i64 i4)), (4, (.ptr 4 0)), (5, (.int .i64 i6))], (Q227 a_f i4)⟩ : St))
noncomputable def Q234 (i4 : Int) (a_f : TFunc) := (fun (i14 : Int) => (⟨[(1, (.ptr 1 0)), (3, (.int .i64 i4)), (4, (.ptr 4 0)), (7, (.int .i64 i14))], (Q227 a_f i4)⟩ : St))
noncomputable def Q218 (a_f : TFunc) := ((bif (((a_f.Blocks.length : Int) : Int) == (0 : Int)) then true else (decide (((64 : Int) : Int) < (a_f.Blocks.length : Int)))) == false)
noncomputable def Q225 (a_f : TFunc) (i4 : Int) (i6 : Int) : List AV := [(.int .i64 (Q216 a_f i4 i6).Bits), (.int .i64 (Q216 a_f i4 i6).Dst), (AV.list 1 eI64 (0 : Int) (Q216 a_f i4 i6).From .none), (AV.list 1 eI64 (0 : Int) (Q216 a_f i4 i6).Args .none)]
noncomputable def Q224 (a_f : TFunc) (i4 : Int) (i14 : Int) : List AV := [(.int .i64 (Q214 a_f i4 i14).Kind), (.int .i64 (Q214 a_f i4 i14).Bits), (.int .i64 (Q214 a_f i4 i14).Lanes), (.int .i64 (Q214 a_f i4 i14).Dst), (AV.list 1 eI64 (0 : Int) (Q214 a_f i4 i14).Args .none), (.int .u64 (Q214 a_f i4 i14).Imm)]
noncomputable def m_lockstepref04_May (a_f : TFunc) : Option Bool :=
  ((bif ((bif (bif (((a_f.Blocks.length : Int) : Int) == (0 : Int)) then true else (decide (((64 : Int) : Int) < (a_f.Blocks.length : Int)))) then true else (decide (((16 : Int) : Int) < (a_f.Params.length : Int)))) == false) then m_lockstepref04_list a_f.Params else some false).bind fun x1 => ((bif ((bif (bif (bif (((a_f.Blocks.length : Int) : Int) == (0 : Int)) then true else (decide (((64 : Int) : Int) < (a_f.Blocks.length : Int)))) then true else (decide (((16 : Int) : Int) < (a_f.Params.length : Int)))) then true else (!x1)) == false) then m_lockstepref04_num a_f.Ret else some false).bind fun x2 => ((bif ((bif (bif (bif (bif (((a_f.Blocks.length : Int) : Int) == (0 : Int)) then true else (decide (((64 : Int) : Int) < (a_f.Blocks.length : Int)))) then true else (decide (((16 : Int) : Int) < (a_f.Params.length : Int)))) then true else (!x1)) then true else (!x2)) == false) then m_lockstepref04_Size a_f else some (0 : Int)).bind fun x3 => (bif (bif (bif (bif (bif (bif (((a_f.Blocks.length : Int) : Int) == (0 : Int)) then true else (decide (((64 : Int) : Int) < (a_f.Blocks.length : Int)))) then true else (decide (((16 : Int) : Int) < (a_f.Params.length : Int)))) then true else (!x1)) then true else (!x2)) then true else (decide (((512 : Int) : Int) < x3))) then (some false) else ((loopO (S := Int) (X := (Unit ⊕ Bool)) (m_lockstepref04_May_L3 a_f) (0 : Int)).bind (fun x28 => (match x28 with | (.inl _) => (some true) | (.inr r30) => (some r30))))))))
theorem ok_lockstepref04_May (a_f : TFunc) (r : Bool) (h : m_lockstepref04_May a_f = some r) : Spec Try.prog 12 [(.agg (eTFunc a_f))] [] (.bool r) [] := by
  refine spec_of_awp (fn := Try.f12) Try.func12 rfl rfl (by kernel_rfl) (fun Γ hn hΓ => ?_)
  have hn : Γ.n = 147 := hn
  unfold m_lockstepref04_May at h
  refine awp_seq ?_
  refine awp_region (rs := []) (cs := []) (live := [1]) (names := [1]) (st' := (⟨[(1, (.ptr 1 0))], [(1, .row (Q215 a_f))]⟩ : St)) (obs := []) hn mix (no_hand hΓ) (by kernel_rfl) trivial ?_
  refine then_normal ?_
  refine awp_seq ?_
  refine awp_seq ?_
  obtain ⟨x1, hx1, h⟩ := bind_some h
  obtain ⟨x2, hx2, h⟩ := bind_some h
  obtain ⟨x3, hx3, h⟩ := bind_some h
  refine awp_region (rs := [⟨[], [], (.bool x1), []⟩, ⟨[], [], (.bool x2), []⟩, ⟨[], [], (.int .i64 x3), []⟩]) (cs := []) (live := [1, 41]) (names := [1]) (st' := (⟨[(1, (.ptr 1 0)), (41, (.bool (bif (Q232 a_f x1 x2) then true else (decide (((512 : Int) : Int) < x3)))))], [(1, .row (Q215 a_f))]⟩ : St)) (obs := [(2 < List.length (α := AV) (Q215 a_f)), ((Q221 a_f) = true → (Q221 a_f) = true), ((Q221 a_f) = true → (2 < List.length (α := AV) (Q215 a_f))), ((Q221 a_f) = true → (Q221 a_f) = true), ((Q221 a_f) = true → (Q221 a_f) = true), ((((a_f.Blocks.length : Int) : Int) == (0 : Int)) = false → (Q221 a_f) = true), ((Q218 a_f) = true → (Q218 a_f) = true), ((Q218 a_f) = true → (0 < List.length (α := AV) (Q215 a_f))), ((Q218 a_f) = true → (Q218 a_f) = true), ((Q218 a_f) = true → (Q218 a_f) = true), ((bif (((a_f.Blocks.length : Int) : Int) == (0 : Int)) then true else (decide (((64 : Int) : Int) < (a_f.Blocks.length : Int)))) = false → (Q218 a_f) = true), (((Q213 a_f) == false) = true → ((Q213 a_f) == false) = true), (((Q213 a_f) == false) = true → (0 < List.length (α := AV) (Q215 a_f))), (((Q213 a_f) == false) = true → ((Q213 a_f) == false) = true), (((Q213 a_f) == false) = true → (Spec Try.prog 28 [(AV.list 1 eI64 (0 : Int) a_f.Params .none)] [] (.bool x1) [])), (((Q213 a_f) == false) = true → ((Q213 a_f) == false) = true), ((Q213 a_f) = false → ((Q213 a_f) == false) = true), (((Q226 a_f x1) == false) = true → ((Q226 a_f x1) == false) = true), (((Q226 a_f x1) == false) = true → (1 < List.length (α := AV) (Q215 a_f))), (((Q226 a_f x1) == false) = true → ((Q226 a_f x1) == false) = true), (((Q226 a_f x1) == false) = true → (Spec Try.prog 29 [(.int .i64 a_f.Ret)] [] (.bool x2) [])), (((Q226 a_f x1) == false) = true → ((Q226 a_f x1) == false) = true), ((Q226 a_f x1) = false → ((Q226 a_f x1) == false) = true), (((Q232 a_f x1 x2) == false) = true → (0 + 3 ≤ List.length (α := AV) (Q215 a_f))), (((Q232 a_f x1 x2) == false) = true → ((Q232 a_f x1 x2) == false) = true), (((Q232 a_f x1 x2) == false) = true → (Spec Try.prog 14 [(.agg (eTFunc a_f))] [] (.int .i64 x3) [])), (((Q232 a_f x1 x2) == false) = true → ((Q232 a_f x1 x2) == false) = true), ((Q232 a_f x1 x2) = false → ((Q232 a_f x1 x2) == false) = true)]) hn mix (no_hand hΓ) (by kernel_rfl) ⟨(nl rfl), (fun hg => hg), (fun hg => (nl rfl)), (fun hg => hg), (fun hg => hg), gF, (fun hg => hg), (fun hg => (nl rfl)), (fun hg => hg), (fun hg => hg), gF, (fun hg => hg), (fun hg => (nl rfl)), (fun hg => hg), (fun hg => (ok_lockstepref04_list a_f.Params x1 (cond_t hg hx1))), (fun hg => hg), gF, (fun hg => hg), (fun hg => (nl rfl)), (fun hg => hg), (fun hg => (ok_lockstepref04_num a_f.Ret x2 (cond_t hg hx2))), (fun hg => hg), gF, (fun hg => (nl rfl)), (fun hg => hg), (fun hg => (ok_lockstepref04_Size a_f x3 (cond_t hg hx3))), (fun hg => hg), gF, trivial⟩ ?_
  refine then_normal ?_
  refine awp_cond (bif (Q232 a_f x1 x2) then true else (decide (((512 : Int) : Int) < x3))) (by kernel_rfl) (fun hb => ?_) (fun hb => ?_)
  · replace h := cond_t hb h
    clear hb
    refine awp_seq ?_
    refine awp_region (rs := []) (cs := []) (live := [2]) (names := []) (st' := (⟨[(2, (.bool false))], []⟩ : St)) (obs := []) hn mix (no_hand hΓ) (by kernel_rfl) trivial ?_
    refine then_normal ?_
    refine awp_ret ?_
    refine then_ret ?_
    obtain rfl := Option.some.inj h
    exact ⟨.inl rfl, [], by kernel_rfl⟩
  · replace h := cond_f hb h
    clear hb
    refine awp_skip ?_
    refine then_normal ?_
    refine awp_seq ?_
    refine awp_seq ?_
    refine awp_region (rs := []) (cs := []) (live := [1, 3]) (names := [1]) (st' := (⟨[(1, (.ptr 1 0)), (3, Q230)], [(1, .row (Q215 a_f))]⟩ : St)) (obs := []) hn mix (no_hand hΓ) (by kernel_rfl) trivial ?_
    refine then_normal ?_
    refine awp_block ?_
    refine awp_le (st' := (fun (i4 : Int) => (⟨[(1, (.ptr 1 0)), (3, (.int .i64 i4))], [(1, .row (Q215 a_f))]⟩ : St)) (0 : Int)) (Le.refl _ _) ?_
    obtain ⟨x28, hx28, h⟩ := bind_some h
    refine awp_loop (fun (i4 : Int) => (⟨[(1, (.ptr 1 0)), (3, (.int .i64 i4))], [(1, .row (Q215 a_f))]⟩ : St)) _ (fun (x_ : (Unit ⊕ Bool)) (e : Exit) (st : St) => match x_ with | (.inl _) => e = (.exit 0) ∧ Le Γ st (⟨[], []⟩ : St) | (.inr r_) => e = .ret ∧ retK Try.prog Try.f12.results.toList [] (.bool r_) [] e st) ?_ hx28 ?_
    · intro i4 y h
      unfold m_lockstepref04_May_L3 at h
      refine awp_seq ?_
      refine awp_seq ?_
      refine awp_region (rs := []) (cs := []) (live := [1, 3, 46]) (names := [1]) (st' := (⟨[(1, (.ptr 1 0)), (3, (.int .i64 i4)), (46, (.bool (decide ((i4 : Int) < (a_f.Blocks.length : Int)))))], [(1, .row (Q215 a_f))]⟩ : St)) (obs := [(2 < List.length (α := AV) (Q215 a_f))]) hn mix (no_hand hΓ) (by kernel_rfl) ⟨(nl rfl), trivial⟩ ?_
      refine then_normal ?_
      refine awp_cond (decide ((i4 : Int) < (a_f.Blocks.length : Int))) (by kernel_rfl) (fun hb => ?_) (fun hb => ?_)
      · replace h := cond_t hb h
        clear hb
        refine awp_skip ?_
        refine then_normal ?_
        refine awp_seq ?_
        refine awp_block ?_
        refine awp_seq ?_
        obtain ⟨hc5, h⟩ := chk_some h
        refine awp_region (rs := []) (cs := []) (live := [1, 3, 4]) (names := [1, 4]) (st' := (Q233 i4 a_f)) (obs := [(2 < List.length (α := AV) (Q215 a_f)), (InB i4 a_f.Blocks.length), (0 + List.length (α := AV) (eTBlock (Q228 a_f i4)) ≤ List.length (α := AV) [Q231, Q231, Q230, Q230, Q231])]) hn mix (no_hand hΓ) (by kernel_rfl) ⟨(nl rfl), hc5, (nl rfl), trivial⟩ ?_
        refine then_normal ?_
        refine awp_seq ?_
        refine awp_seq ?_
        refine awp_region (rs := []) (cs := []) (live := [1, 3, 4, 5]) (names := [1, 4]) (st' := (⟨[(1, (.ptr 1 0)), (3, (.int .i64 i4)), (4, (.ptr 4 0)), (5, Q230)], (Q227 a_f i4)⟩ : St)) (obs := []) hn mix (no_hand hΓ) (by kernel_rfl) trivial ?_
        refine then_normal ?_
        refine awp_block ?_
        refine awp_le (st' := (Q235 i4 a_f) (0 : Int)) (Le.refl _ _) ?_
        obtain ⟨x12, hx12, h⟩ := bind_some h
        refine awp_loop (Q235 i4 a_f) _ (fun (x_ : (Unit ⊕ Bool)) (e : Exit) (st : St) => match x_ with | (.inl _) => e = (.exit 2) ∧ Le Γ st (Q233 i4 a_f) | (.inr r_) => e = .ret ∧ retK Try.prog Try.f12.results.toList [] (.bool r_) [] e st) ?_ hx12 ?_
        · intro i6 y h
          unfold m_lockstepref04_May_L1 at h
          refine awp_seq ?_
          refine awp_seq ?_
          refine awp_region (rs := []) (cs := []) (live := [1, 3, 4, 5, 58]) (names := [1, 4]) (st' := (⟨[(1, (.ptr 1 0)), (3, (.int .i64 i4)), (4, (.ptr 4 0)), (5, (.int .i64 i6)), (58, (.bool (decide ((i6 : Int) < (((Q228 a_f i4).Phis).length : Int)))))], (Q227 a_f i4)⟩ : St)) (obs := [(0 < List.length (α := AV) (Q212 a_f i4))]) hn mix (no_hand hΓ) (by kernel_rfl) ⟨(nl rfl), trivial⟩ ?_
          refine then_normal ?_
          refine awp_cond (decide ((i6 : Int) < (((Q228 a_f i4).Phis).length : Int))) (by kernel_rfl) (fun hb => ?_) (fun hb => ?_)
          · replace h := cond_t hb h
            clear hb
            refine awp_skip ?_
            refine then_normal ?_
            refine awp_seq ?_
            refine awp_block ?_
            refine awp_seq ?_
            obtain ⟨hc7, h⟩ := chk_some h
            refine awp_region (rs := []) (cs := []) (live := [1, 3, 4, 5, 6]) (names := [1, 4, 6]) (st' := (⟨[(1, (.ptr 1 0)), (3, (.int .i64 i4)), (4, (.ptr 4 0)), (5, (.int .i64 i6)), (6, (.ptr 6 0))], [(1, .row (Q215 a_f)), (4, .row (Q212 a_f i4)), (6, .row (Q225 a_f i4 i6))]⟩ : St)) (obs := [(0 < List.length (α := AV) (Q212 a_f i4)), (InB i6 ((Q228 a_f i4).Phis).length), (0 + List.length (α := AV) (eTPhi (Q216 a_f i4 i6)) ≤ List.length (α := AV) [Q230, Q230, Q231, Q231])]) hn mix (no_hand hΓ) (by kernel_rfl) ⟨(nl rfl), hc7, (nl rfl), trivial⟩ ?_
            refine then_normal ?_
            refine awp_seq ?_
            obtain ⟨x8, hx8, h⟩ := bind_some h
            obtain ⟨x9, hx9, h⟩ := bind_some h
            obtain ⟨x10, hx10, h⟩ := bind_some h
            obtain ⟨x11, hx11, h⟩ := bind_some h
            refine awp_region (rs := [⟨[], [], (.bool x8), []⟩, ⟨[], [], (.bool x9), []⟩, ⟨[], [], (.bool x10), []⟩, ⟨[], [], (.bool x11), []⟩]) (cs := []) (live := [1, 3, 4, 5, 87]) (names := [1, 4]) (st' := (⟨[(1, (.ptr 1 0)), (3, (.int .i64 i4)), (4, (.ptr 4 0)), (5, (.int .i64 i6)), (87, (.bool (bif (Q219 x8 x9 x10) then true else (!x11))))], (Q227 a_f i4)⟩ : St)) (obs := [(0 < List.length (α := AV) (Q225 a_f i4 i6)), (Spec Try.prog 29 [(.int .i64 (Q216 a_f i4 i6).Bits)] [] (.bool x8) []), (((!x8) == false) = true → ((!x8) == false) = true), (((!x8) == false) = true → (1 < List.length (α := AV) (Q225 a_f i4 i6))), (((!x8) == false) = true → ((!x8) == false) = true), (((!x8) == false) = true → (Spec Try.prog 29 [(.int .i64 (Q216 a_f i4 i6).Dst)] [] (.bool x9) [])), (((!x8) == false) = true → ((!x8) == false) = true), ((!x8) = false → ((!x8) == false) = true), ((Q223 x8 x9) = true → (Q223 x8 x9) = true), ((Q223 x8 x9) = true → (2 < List.length (α := AV) (Q225 a_f i4 i6))), ((Q223 x8 x9) = true → (Q223 x8 x9) = true), ((Q223 x8 x9) = true → (Spec Try.prog 28 [(AV.list 1 eI64 (0 : Int) (Q216 a_f i4 i6).From .none)] [] (.bool x10) [])), ((Q223 x8 x9) = true → (Q223 x8 x9) = true), ((bif (!x8) then true else (!x9)) = false → (Q223 x8 x9) = true), (((Q219 x8 x9 x10) == false) = true → ((Q219 x8 x9 x10) == false) = true), (((Q219 x8 x9 x10) == false) = true → (3 < List.length (α := AV) (Q225 a_f i4 i6))), (((Q219 x8 x9 x10) == false) = true → ((Q219 x8 x9 x10) == false) = true), (((Q219 x8 x9 x10) == false) = true → (Spec Try.prog 28 [(AV.list 1 eI64 (0 : Int) (Q216 a_f i4 i6).Args .none)] [] (.bool x11) [])), (((Q219 x8 x9 x10) == false) = true → ((Q219 x8 x9 x10) == false) = true), ((Q219 x8 x9 x10) = false → ((Q219 x8 x9 x10) == false) = true)]) hn mix (no_hand hΓ) (by kernel_rfl) ⟨(nl rfl), (ok_lockstepref04_num ((Q216 a_f i4 i6).Bits) x8 hx8), (fun hg => hg), (fun hg => (nl rfl)), (fun hg => hg), (fun hg => (ok_lockstepref04_num ((Q216 a_f i4 i6).Dst) x9 (cond_t hg hx9))), (fun hg => hg), gF, (fun hg => hg), (fun hg => (nl rfl)), (fun hg => hg), (fun hg => (ok_lockstepref04_list ((Q216 a_f i4 i6).From) x10 (cond_t hg hx10))), (fun hg => hg), gF, (fun hg => hg), (fun hg => (nl rfl)), (fun hg => hg), (fun hg => (ok_lockstepref04_list ((Q216 a_f i4 i6).Args) x11 (cond_t hg hx11))), (fun hg => hg), gF, trivial⟩ ?_
            refine then_normal ?_
            refine awp_cond (bif (Q219 x8 x9 x10) then true else (!x11)) (by kernel_rfl) (fun hb => ?_) (fun hb => ?_)
            · replace h := cond_t hb h
              clear hb
              refine awp_seq ?_
              refine awp_region (rs := []) (cs := []) (live := [2]) (names := []) (st' := (⟨[(2, (.bool false))], []⟩ : St)) (obs := []) hn mix (no_hand hΓ) (by kernel_rfl) trivial ?_
              refine then_normal ?_
              refine awp_ret ?_
              refine block_ret ?_
              refine then_ret ?_
              obtain rfl := Option.some.inj h
              exact ⟨(by intro hh; cases hh), rfl, ⟨.inl rfl, [], by kernel_rfl⟩⟩
            · replace h := cond_f hb h
              clear hb
              refine awp_skip ?_
              refine block_normal ?_
              refine then_normal ?_
              refine awp_region (rs := []) (cs := []) (live := [1, 3, 4, 5]) (names := [1, 4]) (st' := (⟨[(1, (.ptr 1 0)), (3, (.int .i64 i4)), (4, (.ptr 4 0)), (5, (.int .i64 (w64 (i6 + (1 : Int)))))], (Q227 a_f i4)⟩ : St)) (obs := []) hn mix (no_hand hΓ) (by kernel_rfl) trivial ?_
              obtain rfl := Option.some.inj h
              exact ⟨rfl, Le.refl _ _⟩
          · replace h := cond_f hb h
            clear hb
            refine awp_exit ?_
            refine then_exit ?_
            obtain rfl := Option.some.inj h
            exact ⟨(by intro hh; cases hh), rfl, le_restrict_eq [1, 3, 4] [1, 4] (by kernel_rfl) (no_hand hΓ)⟩
        · clear hx12
          rcases x12 with _ | r27
          · rintro e st' ⟨rfl, hl13⟩
            refine block_here ?_
            refine then_normal ?_
            refine awp_le hl13 ?_
            refine awp_seq ?_
            refine awp_seq ?_
            refine awp_region (rs := []) (cs := []) (live := [1, 3, 4, 7]) (names := [1, 4]) (st' := (⟨[(1, (.ptr 1 0)), (3, (.int .i64 i4)), (4, (.ptr 4 0)), (7, Q230)], (Q227 a_f i4)⟩ : St)) (obs := []) hn mix (no_hand hΓ) (by kernel_rfl) trivial ?_
            refine then_normal ?_
            refine awp_block ?_
            refine awp_le (st' := (Q234 i4 a_f) (0 : Int)) (Le.refl _ _) ?_
            obtain ⟨x21, hx21, h⟩ := bind_some h
            refine awp_loop (Q234 i4 a_f) _ (fun (x_ : (Unit ⊕ Bool)) (e : Exit) (st : St) => match x_ with | (.inl _) => e = (.exit 4) ∧ Le Γ st (Q233 i4 a_f) | (.inr r_) => e = .ret ∧ retK Try.prog Try.f12.results.toList [] (.bool r_) [] e st) ?_ hx21 ?_
            · intro i14 y h
              unfold m_lockstepref04_May_L2 at h
              refine awp_seq ?_
              refine awp_seq ?_
              refine awp_region (rs := []) (cs := []) (live := [1, 3, 4, 7, 92]) (names := [1, 4]) (st' := (⟨[(1, (.ptr 1 0)), (3, (.int .i64 i4)), (4, (.ptr 4 0)), (7, (.int .i64 i14)), (92, (.bool (decide ((i14 : Int) < (((Q228 a_f i4).Ops).length : Int)))))], (Q227 a_f i4)⟩ : St)) (obs := [(1 < List.length (α := AV) (Q212 a_f i4))]) hn mix (no_hand hΓ) (by kernel_rfl) ⟨(nl rfl), trivial⟩ ?_
              refine then_normal ?_
              refine awp_cond (decide ((i14 : Int) < (((Q228 a_f i4).Ops).length : Int))) (by kernel_rfl) (fun hb => ?_) (fun hb => ?_)
              · replace h := cond_t hb h
                clear hb
                refine awp_skip ?_
                refine then_normal ?_
                refine awp_seq ?_
                refine awp_block ?_
                refine awp_seq ?_
                obtain ⟨hc15, h⟩ := chk_some h
                refine awp_region (rs := []) (cs := []) (live := [1, 3, 4, 7, 8]) (names := [1, 4, 8]) (st' := (⟨[(1, (.ptr 1 0)), (3, (.int .i64 i4)), (4, (.ptr 4 0)), (7, (.int .i64 i14)), (8, (.ptr 8 0))], [(1, .row (Q215 a_f)), (4, .row (Q212 a_f i4)), (8, .row (Q224 a_f i4 i14))]⟩ : St)) (obs := [(1 < List.length (α := AV) (Q212 a_f i4)), (InB i14 ((Q228 a_f i4).Ops).length), (0 + List.length (α := AV) (eTOp (Q214 a_f i4 i14)) ≤ List.length (α := AV) [Q230, Q230, Q230, Q230, Q231, (.int .u64 (0 : Int))])]) hn mix (no_hand hΓ) (by kernel_rfl) ⟨(nl rfl), hc15, (nl rfl), trivial⟩ ?_
                refine then_normal ?_
                refine awp_seq ?_
                obtain ⟨x16, hx16, h⟩ := bind_some h
                obtain ⟨x17, hx17, h⟩ := bind_some h
                obtain ⟨x18, hx18, h⟩ := bind_some h
                obtain ⟨x19, hx19, h⟩ := bind_some h
                obtain ⟨x20, hx20, h⟩ := bind_some h
                refine awp_region (rs := [⟨[], [], (.bool x16), []⟩, ⟨[], [], (.bool x17), []⟩, ⟨[], [], (.bool x18), []⟩, ⟨[], [], (.bool x19), []⟩, ⟨[], [], (.bool x20), []⟩]) (cs := []) (live := [1, 3, 4, 7, 127]) (names := [1, 4]) (st' := (⟨[(1, (.ptr 1 0)), (3, (.int .i64 i4)), (4, (.ptr 4 0)), (7, (.int .i64 i14)), (127, (.bool (bif (Q229 x16 x17 x18 x19) then true else (!x20))))], (Q227 a_f i4)⟩ : St)) (obs := [(0 < List.length (α := AV) (Q224 a_f i4 i14)), (Spec Try.prog 29 [(.int .i64 (Q214 a_f i4 i14).Kind)] [] (.bool x16) []), (((!x16) == false) = true → ((!x16) == false) = true), (((!x16) == false) = true → (1 < List.length (α := AV) (Q224 a_f i4 i14))), (((!x16) == false) = true → ((!x16) == false) = true), (((!x16) == false) = true → (Spec Try.prog 29 [(.int .i64 (Q214 a_f i4 i14).Bits)] [] (.bool x17) [])), (((!x16) == false) = true → ((!x16) == false) = true), ((!x16) = false → ((!x16) == false) = true), ((Q222 x16 x17) = true → (Q222 x16 x17) = true), ((Q222 x16 x17) = true → (2 < List.length (α := AV) (Q224 a_f i4 i14))), ((Q222 x16 x17) = true → (Q222 x16 x17) = true), ((Q222 x16 x17) = true → (Spec Try.prog 29 [(.int .i64 (Q214 a_f i4 i14).Lanes)] [] (.bool x18) [])), ((Q222 x16 x17) = true → (Q222 x16 x17) = true), ((bif (!x16) then true else (!x17)) = false → (Q222 x16 x17) = true), (((Q217 x16 x17 x18) == false) = true → ((Q217 x16 x17 x18) == false) = true), (((Q217 x16 x17 x18) == false) = true → (3 < List.length (α := AV) (Q224 a_f i4 i14))), (((Q217 x16 x17 x18) == false) = true → ((Q217 x16 x17 x18) == false) = true), (((Q217 x16 x17 x18) == false) = true → (Spec Try.prog 29 [(.int .i64 (Q214 a_f i4 i14).Dst)] [] (.bool x19) [])), (((Q217 x16 x17 x18) == false) = true → ((Q217 x16 x17 x18) == false) = true), ((Q217 x16 x17 x18) = false → ((Q217 x16 x17 x18) == false) = true), (((Q229 x16 x17 x18 x19) == false) = true → ((Q229 x16 x17 x18 x19) == false) = true), (((Q229 x16 x17 x18 x19) == false) = true → (4 < List.length (α := AV) (Q224 a_f i4 i14))), (((Q229 x16 x17 x18 x19) == false) = true → ((Q229 x16 x17 x18 x19) == false) = true), (((Q229 x16 x17 x18 x19) == false) = true → (Spec Try.prog 28 [(AV.list 1 eI64 (0 : Int) (Q214 a_f i4 i14).Args .none)] [] (.bool x20) [])), (((Q229 x16 x17 x18 x19) == false) = true → ((Q229 x16 x17 x18 x19) == false) = true), ((Q229 x16 x17 x18 x19) = false → ((Q229 x16 x17 x18 x19) == false) = true)]) hn mix (no_hand hΓ) (by kernel_rfl) ⟨(nl rfl), (ok_lockstepref04_num ((Q214 a_f i4 i14).Kind) x16 hx16), (fun hg => hg), (fun hg => (nl rfl)), (fun hg => hg), (fun hg => (ok_lockstepref04_num ((Q214 a_f i4 i14).Bits) x17 (cond_t hg hx17))), (fun hg => hg), gF, (fun hg => hg), (fun hg => (nl rfl)), (fun hg => hg), (fun hg => (ok_lockstepref04_num ((Q214 a_f i4 i14).Lanes) x18 (cond_t hg hx18))), (fun hg => hg), gF, (fun hg => hg), (fun hg => (nl rfl)), (fun hg => hg), (fun hg => (ok_lockstepref04_num ((Q214 a_f i4 i14).Dst) x19 (cond_t hg hx19))), (fun hg => hg), gF, (fun hg => hg), (fun hg => (nl rfl)), (fun hg => hg), (fun hg => (ok_lockstepref04_list ((Q214 a_f i4 i14).Args) x20 (cond_t hg hx20))), (fun hg => hg), gF, trivial⟩ ?_
                refine then_normal ?_
                refine awp_cond (bif (Q229 x16 x17 x18 x19) then true else (!x20)) (by kernel_rfl) (fun hb => ?_) (fun hb => ?_)
                · replace h := cond_t hb h
                  clear hb
                  refine awp_seq ?_
                  refine awp_region (rs := []) (cs := []) (live := [2]) (names := []) (st' := (⟨[(2, (.bool false))], []⟩ : St)) (obs := []) hn mix (no_hand hΓ) (by kernel_rfl) trivial ?_
                  refine then_normal ?_
                  refine awp_ret ?_
                  refine block_ret ?_
                  refine then_ret ?_
                  obtain rfl := Option.some.inj h
                  exact ⟨(by intro hh; cases hh), rfl, ⟨.inl rfl, [], by kernel_rfl⟩⟩
                · replace h := cond_f hb h
                  clear hb
                  refine awp_skip ?_
                  refine block_normal ?_
                  refine then_normal ?_
                  refine awp_region (rs := []) (cs := []) (live := [1, 3, 4, 7]) (names := [1, 4]) (st' := (⟨[(1, (.ptr 1 0)), (3, (.int .i64 i4)), (4, (.ptr 4 0)), (7, (.int .i64 (w64 (i14 + (1 : Int)))))], (Q227 a_f i4)⟩ : St)) (obs := []) hn mix (no_hand hΓ) (by kernel_rfl) trivial ?_
                  obtain rfl := Option.some.inj h
                  exact ⟨rfl, Le.refl _ _⟩
              · replace h := cond_f hb h
                clear hb
                refine awp_exit ?_
                refine then_exit ?_
                obtain rfl := Option.some.inj h
                exact ⟨(by intro hh; cases hh), rfl, le_restrict_eq [1, 3, 4] [1, 4] (by kernel_rfl) (no_hand hΓ)⟩
            · clear hx21
              rcases x21 with _ | r26
              · rintro e st' ⟨rfl, hl22⟩
                refine block_here ?_
                refine then_normal ?_
                refine awp_le hl22 ?_
                refine awp_seq ?_
                obtain ⟨x23, hx23, h⟩ := bind_some h
                obtain ⟨x24, hx24, h⟩ := bind_some h
                obtain ⟨x25, hx25, h⟩ := bind_some h
                refine awp_region (rs := [⟨[], [], (.bool x23), []⟩, ⟨[], [], (.bool x24), []⟩, ⟨[], [], (.bool x25), []⟩]) (cs := []) (live := [1, 3, 146]) (names := [1]) (st' := (⟨[(1, (.ptr 1 0)), (3, (.int .i64 i4)), (146, (.bool (bif (bif (!x23) then true else (!x24)) then true else (!x25))))], [(1, .row (Q215 a_f))]⟩ : St)) (obs := [(2 < List.length (α := AV) (Q212 a_f i4)), (Spec Try.prog 29 [(.int .i64 (Q228 a_f i4).End.Kind)] [] (.bool x23) []), (((!x23) == false) = true → ((!x23) == false) = true), (((!x23) == false) = true → ((!x23) == false) = true), (((!x23) == false) = true → (3 < List.length (α := AV) (Q212 a_f i4))), (((!x23) == false) = true → ((!x23) == false) = true), (((!x23) == false) = true → (Spec Try.prog 29 [(.int .i64 (Q228 a_f i4).End.Arg)] [] (.bool x24) [])), (((!x23) == false) = true → ((!x23) == false) = true), ((!x23) = false → ((!x23) == false) = true), ((Q220 x23 x24) = true → (Q220 x23 x24) = true), ((Q220 x23 x24) = true → (Q220 x23 x24) = true), ((Q220 x23 x24) = true → (4 < List.length (α := AV) (Q212 a_f i4))), ((Q220 x23 x24) = true → (Q220 x23 x24) = true), ((Q220 x23 x24) = true → (Spec Try.prog 28 [(AV.list 1 eI64 (0 : Int) (Q228 a_f i4).End.To .none)] [] (.bool x25) [])), ((Q220 x23 x24) = true → (Q220 x23 x24) = true), ((bif (!x23) then true else (!x24)) = false → (Q220 x23 x24) = true)]) hn mix (no_hand hΓ) (by kernel_rfl) ⟨(nl rfl), (ok_lockstepref04_num ((Q228 a_f i4).End.Kind) x23 hx23), (fun hg => hg), (fun hg => hg), (fun hg => (nl rfl)), (fun hg => hg), (fun hg => (ok_lockstepref04_num ((Q228 a_f i4).End.Arg) x24 (cond_t hg hx24))), (fun hg => hg), gF, (fun hg => hg), (fun hg => hg), (fun hg => (nl rfl)), (fun hg => hg), (fun hg => (ok_lockstepref04_list ((Q228 a_f i4).End.To) x25 (cond_t hg hx25))), (fun hg => hg), gF, trivial⟩ ?_
                refine then_normal ?_
                refine awp_cond (bif (bif (!x23) then true else (!x24)) then true else (!x25)) (by kernel_rfl) (fun hb => ?_) (fun hb => ?_)
                · replace h := cond_t hb h
                  clear hb
                  refine awp_seq ?_
                  refine awp_region (rs := []) (cs := []) (live := [2]) (names := []) (st' := (⟨[(2, (.bool false))], []⟩ : St)) (obs := []) hn mix (no_hand hΓ) (by kernel_rfl) trivial ?_
                  refine then_normal ?_
                  refine awp_ret ?_
                  refine block_ret ?_
                  refine then_ret ?_
                  obtain rfl := Option.some.inj h
                  exact ⟨(by intro hh; cases hh), rfl, ⟨.inl rfl, [], by kernel_rfl⟩⟩
                · replace h := cond_f hb h
                  clear hb
                  refine awp_skip ?_
                  refine block_normal ?_
                  refine then_normal ?_
                  refine awp_region (rs := []) (cs := []) (live := [1, 3]) (names := [1]) (st' := (⟨[(1, (.ptr 1 0)), (3, (.int .i64 (w64 (i4 + (1 : Int)))))], [(1, .row (Q215 a_f))]⟩ : St)) (obs := []) hn mix (no_hand hΓ) (by kernel_rfl) trivial ?_
                  obtain rfl := Option.some.inj h
                  exact ⟨rfl, Le.refl _ _⟩
              · rintro e st' ⟨rfl, hk⟩
                refine block_ret ?_
                refine then_ret ?_
                refine block_ret ?_
                refine then_ret ?_
                obtain rfl := Option.some.inj h
                exact ⟨(by intro hh; cases hh), rfl, hk⟩
          · rintro e st' ⟨rfl, hk⟩
            refine block_ret ?_
            refine then_ret ?_
            refine block_ret ?_
            refine then_ret ?_
            obtain rfl := Option.some.inj h
            exact ⟨(by intro hh; cases hh), rfl, hk⟩
      · replace h := cond_f hb h
        clear hb
        refine awp_exit ?_
        refine then_exit ?_
        obtain rfl := Option.some.inj h
        exact ⟨(by intro hh; cases hh), rfl, le_restrict_eq [] [] (by kernel_rfl) (no_hand hΓ)⟩
    · clear hx28
      rcases x28 with _ | r30
      · rintro e st' ⟨rfl, hl29⟩
        refine block_here ?_
        refine then_normal ?_
        refine awp_le hl29 ?_
        refine awp_seq ?_
        refine awp_region (rs := []) (cs := []) (live := [2]) (names := []) (st' := (⟨[(2, (.bool true))], []⟩ : St)) (obs := []) hn mix (no_hand hΓ) (by kernel_rfl) trivial ?_
        refine then_normal ?_
        refine awp_ret ?_
        obtain rfl := Option.some.inj h
        exact ⟨.inl rfl, [], by kernel_rfl⟩
      · rintro e st' ⟨rfl, hk⟩
        refine block_ret ?_
        refine then_ret ?_
        obtain rfl := Option.some.inj h
        exact hk

noncomputable def Q237 (a_v : Int) := ([(wu8 a_v)] : List (Int))
noncomputable def Q236 (a_v : Int) := ([(wu8 (wu64 ((Int.tmod a_v (128 : Int)) + (128 : Int))))] : List (Int))
noncomputable def mB_lockstepref02_Put (rec_lockstepref02_Put : Int → Option (List (Int))) (a_v : Int) : Option (List (Int)) :=
  (bif (decide ((a_v : Int) < (128 : Int))) then (some ([(wu8 a_v)] : List (Int))) else ((rec_lockstepref02_Put (wu64 (Int.tdiv a_v (128 : Int)))).bind fun x1 => (chk (([(wu8 (wu64 ((Int.tmod a_v (128 : Int)) + (128 : Int))))] : List (Int)).length + x1.length ≤ room) (some (([(wu8 (wu64 ((Int.tmod a_v (128 : Int)) + (128 : Int))))] : List (Int)) ++ x1)))))
noncomputable def mN_lockstepref02_Put : Nat → Int → Option (List (Int))
  | 0 => fun _ => none
  | n + 1 => mB_lockstepref02_Put (mN_lockstepref02_Put n)
noncomputable def m_lockstepref02_Put (a_v : Int) : Option (List (Int)) := fixO fun n => mN_lockstepref02_Put n a_v
theorem okN_lockstepref02_Put (n : Nat) : (∀ (a_v : Int) (r : List (Int)), mN_lockstepref02_Put n a_v = some r → Spec Try.prog 32 [(.int .u64 a_v)] [] (AV.list 1 eU8 (0 : Int) r (.own 20000)) [(20000, .tok 1 5 r.length)]) := by
  induction n with
  | zero => exact fun a_v r h => by cases h
  | succ n ih =>
    have ih_lockstepref02_Put := ih
    intro a_v r h
    refine spec_of_awp (fn := Try.f32) Try.func32 rfl rfl (by kernel_rfl) (fun Γ hn hΓ => ?_)
    have hn : Γ.n = 17 := hn
    change mB_lockstepref02_Put (mN_lockstepref02_Put n) a_v = some r at h
    unfold mB_lockstepref02_Put at h
    refine awp_seq ?_
    refine awp_region (rs := []) (cs := [(2, (AV.list 1 eU8 (0 : Int) ([] : List Int) .exact))]) (live := [0]) (names := []) (st' := (⟨[(0, (.int .u64 a_v))], []⟩ : St)) (obs := [(AVle (.slice 0 0 (fun _ => []) .exact) (AV.list 1 eU8 (0 : Int) ([] : List Int) .exact))]) hn mix (no_hand hΓ) (by kernel_rfl) ⟨av_nil, trivial⟩ ?_
    refine then_normal ?_
    refine awp_seq ?_
    refine awp_seq ?_
    refine awp_region (rs := []) (cs := []) (live := [0, 4]) (names := []) (st' := (⟨[(0, (.int .u64 a_v)), (4, (.bool (decide ((a_v : Int) < (128 : Int)))))], []⟩ : St)) (obs := []) hn mix (no_hand hΓ) (by kernel_rfl) trivial ?_
    refine then_normal ?_
    refine awp_cond (decide ((a_v : Int) < (128 : Int))) (by kernel_rfl) (fun hb => ?_) (fun hb => ?_)
    · replace h := cond_t hb h
      clear hb
      refine awp_seq ?_
      refine awp_region (rs := []) (cs := [(7, (AV.list 1 eU8 (0 : Int) (Q237 a_v) .exact))]) (live := [2]) (names := []) (st' := (⟨[(2, (AV.list 1 eU8 (0 : Int) (Q237 a_v) .exact))], []⟩ : St)) (obs := [(AVle (.slice 1 1 (fun i => ([[(.int .u8 (wu8 a_v))]] : List (List AV)).getD i []) .exact) (AV.list 1 eU8 (0 : Int) (Q237 a_v) .exact))]) hn mix (no_hand hΓ) (by kernel_rfl) ⟨(av_lit rfl (fun i hi => map_get (e := eU8) (d := (0 : Int)) (Q237 a_v) i hi)), trivial⟩ ?_
      refine then_normal ?_
      refine awp_le (st' := (⟨[(2, (AV.list 1 eU8 (0 : Int) (Q237 a_v) (.own 6002)))], [(6002, .tok 1 5 ((Q237 a_v).length))]⟩ : St)) (Le.trans (le_restrict_eq (st' := (⟨[(2, (AV.list 1 eU8 (0 : Int) (Q237 a_v) .exact))], []⟩ : St)) [2] [] (by kernel_rfl) (no_hand hΓ)) (Le.trans (le_tag (t := 2) (nm := 6002) (sz' := 1) (fun i => eU8 ((Q237 a_v).getD i (0 : Int))) 5 rfl rfl (.inl ⟨rfl, rfl⟩)) (le_restrict_eq (st' := (⟨[(2, (AV.list 1 eU8 (0 : Int) (Q237 a_v) (.own 6002)))], [(6002, .tok 1 5 ((Q237 a_v).length))]⟩ : St)) [2] [6002] (by kernel_rfl) (no_hand hΓ)))) ?_
      refine awp_ret ?_
      refine then_ret ?_
      obtain rfl := Option.some.inj h
      exact ⟨.inl rfl, [(6002, 20000)], by kernel_rfl⟩
    · replace h := cond_f hb h
      clear hb
      refine awp_skip ?_
      refine then_normal ?_
      refine awp_seq ?_
      obtain ⟨x1, hx1, h⟩ := bind_some h
      obtain ⟨hc2, h⟩ := chk_some h
      refine awp_region (rs := [⟨[], [(20000, 15)], (AV.list 1 eU8 (0 : Int) x1 (.own 20000)), [(20000, .tok 1 5 x1.length)]⟩]) (cs := [(12, (AV.list 1 eU8 (0 : Int) (Q236 a_v) .exact)), (16, (AV.list 1 eU8 (0 : Int) ((Q236 a_v) ++ x1) (.own 16)))]) (live := [2]) (names := [16]) (st' := (⟨[(2, (AV.list 1 eU8 (0 : Int) ((Q236 a_v) ++ x1) (.own 16)))], [(16, .tok 1 5 (((Q236 a_v) ++ x1).length))]⟩ : St)) (obs := [((128 : Int) ≠ 0), (AVle (.slice 1 1 (fun i => ([[(.int .u8 (wu8 (wu64 ((Int.tmod a_v (128 : Int)) + (128 : Int)))))]] : List (List AV)).getD i []) .exact) (AV.list 1 eU8 (0 : Int) (Q236 a_v) .exact)), ((128 : Int) ≠ 0), (Spec Try.prog 32 [(.int .u64 (wu64 (Int.tdiv a_v (128 : Int))))] [] (AV.list 1 eU8 (0 : Int) x1 (.own 20000)) [(20000, .tok 1 5 x1.length)]), ((Q236 a_v).length + x1.length ≤ room), (AVle (.slice 1 ((Q236 a_v).length + x1.length) (appF (Q236 a_v).length (fun i => eU8 ((Q236 a_v).getD i (0 : Int))) (fun i => eU8 (x1.getD i (0 : Int)))) (.own 16)) (AV.list 1 eU8 (0 : Int) ((Q236 a_v) ++ x1) (.own 16))), ((Q236 a_v).length + x1.length = ((Q236 a_v) ++ x1).length)]) hn mix (no_hand hΓ) (by kernel_rfl) ⟨(by decide), (av_lit rfl (fun i hi => map_get (e := eU8) (d := (0 : Int)) (Q236 a_v) i hi)), (by decide), (ih_lockstepref02_Put (wu64 (Int.tdiv a_v (128 : Int))) x1 hx1), hc2, av_app, (len_app _ _), trivial⟩ ?_
      refine then_normal ?_
      refine awp_ret ?_
      obtain rfl := Option.some.inj h
      exact ⟨.inl rfl, [(16, 20000)], by kernel_rfl⟩
theorem ok_lockstepref02_Put (a_v : Int) (r : List (Int)) (h : m_lockstepref02_Put a_v = some r) : Spec Try.prog 32 [(.int .u64 a_v)] [] (AV.list 1 eU8 (0 : Int) r (.own 20000)) [(20000, .tok 1 5 r.length)] := by
  obtain ⟨n, hn⟩ := fixO_some h
  exact (okN_lockstepref02_Put n) a_v r hn

noncomputable def m_lockstepref02_Row_L1 (a_l : List (Int)) : (List (Int) × Int) → Option (LR (List (Int) × Int) (List (Int) ⊕ List (Int))) :=
  fun ((l2, i3) : (List (Int) × Int)) => (bif (decide ((i3 : Int) < (a_l.length : Int))) then (chk (InB i3 a_l.length) (bif (decide (((a_l.getD (i3).toNat (0 : Int)) : Int) < (0 : Int))) then (some (.done (.inr ([] : List Int)))) else (chk (InB i3 a_l.length) ((m_lockstepref02_Put (wu64 (a_l.getD (i3).toNat (0 : Int)))).bind fun x7 => (chk (l2.length + x7.length ≤ room) (some (.next ((l2 ++ x7), (w64 (i3 + (1 : Int))))))))))) else (some (.done (.inl l2))))
noncomputable def Q238 (a_l : List (Int)) : AV := (AV.list 1 eI64 (0 : Int) a_l .none)
noncomputable def Q239 : AV := (AV.list 1 eU8 (0 : Int) ([] : List Int) .exact)
noncomputable def m_lockstepref02_Row (a_l : List (Int)) : Option (List (Int)) :=
  ((m_lockstepref02_Put (wu64 (a_l.length : Int))).bind fun x1 => ((loopO (S := (List (Int) × Int)) (X := (List (Int) ⊕ List (Int))) (m_lockstepref02_Row_L1 a_l) (x1, (0 : Int))).bind (fun x9 => (match x9 with | (.inl l4) => (some l4) | (.inr r11) => (some r11)))))
theorem ok_lockstepref02_Row (a_l : List (Int)) (r : List (Int)) (h : m_lockstepref02_Row a_l = some r) : Spec Try.prog 30 [(AV.list 1 eI64 (0 : Int) a_l .none)] [] (AV.list 1 eU8 (0 : Int) r (.own 20000)) [(20000, .tok 1 5 r.length)] := by
  refine spec_of_awp (fn := Try.f30) Try.func30 rfl rfl (by kernel_rfl) (fun Γ hn hΓ => ?_)
  have hn : Γ.n = 29 := hn
  unfold m_lockstepref02_Row at h
  refine awp_seq ?_
  refine awp_region (rs := []) (cs := [(2, Q239)]) (live := [0]) (names := []) (st' := (⟨[(0, (Q238 a_l))], []⟩ : St)) (obs := [(AVle (.slice 0 0 (fun _ => []) .exact) Q239)]) hn mix (no_hand hΓ) (by kernel_rfl) ⟨av_nil, trivial⟩ ?_
  refine then_normal ?_
  refine awp_seq ?_
  obtain ⟨x1, hx1, h⟩ := bind_some h
  refine awp_region (rs := [⟨[], [(20000, 8)], (AV.list 1 eU8 (0 : Int) x1 (.own 20000)), [(20000, .tok 1 5 x1.length)]⟩]) (cs := []) (live := [0, 3]) (names := [8]) (st' := (⟨[(0, (Q238 a_l)), (3, (AV.list 1 eU8 (0 : Int) x1 (.own 8)))], [(8, .tok 1 5 x1.length)]⟩ : St)) (obs := [(Spec Try.prog 32 [(.int .u64 (wu64 (a_l.length : Int)))] [] (AV.list 1 eU8 (0 : Int) x1 (.own 20000)) [(20000, .tok 1 5 x1.length)])]) hn mix (no_hand hΓ) (by kernel_rfl) ⟨(ok_lockstepref02_Put (wu64 (a_l.length : Int)) x1 hx1), trivial⟩ ?_
  refine then_normal ?_
  refine awp_seq ?_
  refine awp_seq ?_
  refine awp_region (rs := []) (cs := []) (live := [0, 3, 4]) (names := [8]) (st' := (⟨[(0, (Q238 a_l)), (3, (AV.list 1 eU8 (0 : Int) x1 (.own 8))), (4, (.int .i64 (0 : Int)))], [(8, .tok 1 5 x1.length)]⟩ : St)) (obs := []) hn mix (no_hand hΓ) (by kernel_rfl) trivial ?_
  refine then_normal ?_
  refine awp_block ?_
  refine awp_le (st' := (fun ((l2, i3) : (List (Int) × Int)) => (⟨[(0, (Q238 a_l)), (3, (AV.list 1 eU8 (0 : Int) l2 (.own 8))), (4, (.int .i64 i3))], [(8, .tok 1 5 l2.length)]⟩ : St)) (x1, (0 : Int))) (Le.refl _ _) ?_
  obtain ⟨x9, hx9, h⟩ := bind_some h
  refine awp_loop (fun ((l2, i3) : (List (Int) × Int)) => (⟨[(0, (Q238 a_l)), (3, (AV.list 1 eU8 (0 : Int) l2 (.own 8))), (4, (.int .i64 i3))], [(8, .tok 1 5 l2.length)]⟩ : St)) _ (fun (x_ : (List (Int) ⊕ List (Int))) (e : Exit) (st : St) => match x_ with | (.inl l4) => e = (.exit 0) ∧ Le Γ st (⟨[(3, (AV.list 1 eU8 (0 : Int) l4 (.own 8)))], [(8, .tok 1 5 l4.length)]⟩ : St) | (.inr r_) => e = .ret ∧ retK Try.prog Try.f30.results.toList [] (AV.list 1 eU8 (0 : Int) r_ (.own 20000)) [(20000, .tok 1 5 r_.length)] e st) ?_ hx9 ?_
  · rintro ⟨l2, i3⟩ y h
    unfold m_lockstepref02_Row_L1 at h
    refine awp_seq ?_
    refine awp_seq ?_
    refine awp_region (rs := []) (cs := []) (live := [0, 3, 4, 12]) (names := [8]) (st' := (⟨[(0, (Q238 a_l)), (3, (AV.list 1 eU8 (0 : Int) l2 (.own 8))), (4, (.int .i64 i3)), (12, (.bool (decide ((i3 : Int) < (a_l.length : Int)))))], [(8, .tok 1 5 l2.length)]⟩ : St)) (obs := []) hn mix (no_hand hΓ) (by kernel_rfl) trivial ?_
    refine then_normal ?_
    refine awp_cond (decide ((i3 : Int) < (a_l.length : Int))) (by kernel_rfl) (fun hb => ?_) (fun hb => ?_)
    · replace h := cond_t hb h
      clear hb
      refine awp_skip ?_
      refine then_normal ?_
      refine awp_seq ?_
      refine awp_block ?_
      refine awp_seq ?_
      refine awp_seq ?_
      obtain ⟨hc5, h⟩ := chk_some h
      refine awp_region (rs := []) (cs := []) (live := [0, 3, 4, 19]) (names := [8]) (st' := (⟨[(0, (Q238 a_l)), (3, (AV.list 1 eU8 (0 : Int) l2 (.own 8))), (4, (.int .i64 i3)), (19, (.bool (decide (((a_l.getD (i3).toNat (0 : Int)) : Int) < (0 : Int)))))], [(8, .tok 1 5 l2.length)]⟩ : St)) (obs := [(InB i3 a_l.length)]) hn mix (no_hand hΓ) (by kernel_rfl) ⟨hc5, trivial⟩ ?_
      refine then_normal ?_
      refine awp_cond (decide (((a_l.getD (i3).toNat (0 : Int)) : Int) < (0 : Int))) (by kernel_rfl) (fun hb => ?_) (fun hb => ?_)
      · replace h := cond_t hb h
        clear hb
        refine awp_seq ?_
        refine awp_region (rs := []) (cs := [(2, Q239)]) (live := [2]) (names := []) (st' := (⟨[(2, Q239)], []⟩ : St)) (obs := [(AVle (.slice 0 0 (fun _ => []) .exact) Q239)]) hn mix (no_hand hΓ) (by kernel_rfl) ⟨av_nil, trivial⟩ ?_
        refine then_normal ?_
        refine awp_le (st' := (⟨[(2, (AV.list 1 eU8 (0 : Int) ([] : List Int) (.own 6002)))], [(6002, .tok 1 5 (([] : List Int).length))]⟩ : St)) (Le.trans (le_restrict_eq (st' := (⟨[(2, Q239)], []⟩ : St)) [2] [] (by kernel_rfl) (no_hand hΓ)) (Le.trans (le_tag (t := 2) (nm := 6002) (sz' := 1) (fun i => eU8 (([] : List Int).getD i (0 : Int))) 5 rfl rfl (.inl ⟨rfl, rfl⟩)) (le_restrict_eq (st' := (⟨[(2, (AV.list 1 eU8 (0 : Int) ([] : List Int) (.own 6002)))], [(6002, .tok 1 5 (([] : List Int).length))]⟩ : St)) [2] [6002] (by kernel_rfl) (no_hand hΓ)))) ?_
        refine awp_ret ?_
        refine then_ret ?_
        refine block_ret ?_
        refine then_ret ?_
        obtain rfl := Option.some.inj h
        exact ⟨(by intro hh; cases hh), rfl, ⟨.inl rfl, [(6002, 20000)], by kernel_rfl⟩⟩
      · replace h := cond_f hb h
        clear hb
        refine awp_skip ?_
        refine then_normal ?_
        obtain ⟨hc6, h⟩ := chk_some h
        obtain ⟨x7, hx7, h⟩ := bind_some h
        obtain ⟨hc8, h⟩ := chk_some h
        refine awp_region (rs := [⟨[], [(20000, 26)], (AV.list 1 eU8 (0 : Int) x7 (.own 20000)), [(20000, .tok 1 5 x7.length)]⟩]) (cs := [(27, (AV.list 1 eU8 (0 : Int) (l2 ++ x7) (.own 8)))]) (live := [0, 3, 4]) (names := [8]) (st' := (⟨[(0, (Q238 a_l)), (3, (AV.list 1 eU8 (0 : Int) (l2 ++ x7) (.own 8))), (4, (.int .i64 i3))], [(8, .tok 1 5 ((l2 ++ x7).length))]⟩ : St)) (obs := [(InB i3 a_l.length), (Spec Try.prog 32 [(.int .u64 (wu64 (a_l.getD (i3).toNat (0 : Int))))] [] (AV.list 1 eU8 (0 : Int) x7 (.own 20000)) [(20000, .tok 1 5 x7.length)]), (l2.length = l2.length), (l2.length + x7.length ≤ room), (AVle (.slice 1 (l2.length + x7.length) (appF l2.length (fun i => eU8 (l2.getD i (0 : Int))) (fun i => eU8 (x7.getD i (0 : Int)))) (.own 8)) (AV.list 1 eU8 (0 : Int) (l2 ++ x7) (.own 8))), (l2.length + x7.length = (l2 ++ x7).length)]) hn mix (no_hand hΓ) (by kernel_rfl) ⟨hc6, (ok_lockstepref02_Put (wu64 (a_l.getD (i3).toNat (0 : Int))) x7 hx7), rfl, hc8, av_app, (len_app _ _), trivial⟩ ?_
        refine block_normal ?_
        refine then_normal ?_
        refine awp_region (rs := []) (cs := []) (live := [0, 3, 4]) (names := [8]) (st' := (⟨[(0, (Q238 a_l)), (3, (AV.list 1 eU8 (0 : Int) (l2 ++ x7) (.own 8))), (4, (.int .i64 (w64 (i3 + (1 : Int)))))], [(8, .tok 1 5 ((l2 ++ x7).length))]⟩ : St)) (obs := []) hn mix (no_hand hΓ) (by kernel_rfl) trivial ?_
        obtain rfl := Option.some.inj h
        exact ⟨rfl, Le.refl _ _⟩
    · replace h := cond_f hb h
      clear hb
      refine awp_exit ?_
      refine then_exit ?_
      obtain rfl := Option.some.inj h
      exact ⟨(by intro hh; cases hh), rfl, le_restrict_eq [3] [8] (by kernel_rfl) (no_hand hΓ)⟩
  · clear hx9
    rcases x9 with l4 | r11
    · rintro e st' ⟨rfl, hl10⟩
      refine block_here ?_
      refine then_normal ?_
      refine awp_le hl10 ?_
      refine awp_seq ?_
      refine awp_region (rs := []) (cs := []) (live := [2]) (names := [8]) (st' := (⟨[(2, (AV.list 1 eU8 (0 : Int) l4 (.own 8)))], [(8, .tok 1 5 l4.length)]⟩ : St)) (obs := []) hn mix (no_hand hΓ) (by kernel_rfl) trivial ?_
      refine then_normal ?_
      refine awp_ret ?_
      obtain rfl := Option.some.inj h
      exact ⟨.inl rfl, [(8, 20000)], by kernel_rfl⟩
    · rintro e st' ⟨rfl, hk⟩
      refine block_ret ?_
      refine then_ret ?_
      obtain rfl := Option.some.inj h
      exact hk

noncomputable def m_lockstepref04_put (a_b : List (Int)) (a_n : Int) : Option (List (Int)) :=
  ((m_lockstepref02_Put (wu64 a_n)).bind fun x1 => (chk (a_b.length + x1.length ≤ room) (some (a_b ++ x1))))
theorem ok_lockstepref04_put (a_b : List (Int)) (a_n : Int) (r : List (Int)) (h : m_lockstepref04_put a_b a_n = some r) : Spec Try.prog 31 [(AV.list 1 eU8 (0 : Int) a_b (.own 32000)), (.int .i64 a_n)] [(32000, .tok 1 5 a_b.length)] (AV.list 1 eU8 (0 : Int) r (.own 32000)) [(32000, .tok 1 5 r.length)] := by
  refine spec_of_awp (fn := Try.f31) Try.func31 rfl rfl (by kernel_rfl) (fun Γ hn hΓ => ?_)
  have hn : Γ.n = 10 := hn
  unfold m_lockstepref04_put at h
  refine awp_seq ?_
  refine awp_region (rs := []) (cs := [(4, (AV.list 1 eU8 (0 : Int) ([] : List Int) .exact))]) (live := [0, 1]) (names := [32000]) (st' := (⟨[(0, (AV.list 1 eU8 (0 : Int) a_b (.own 32000))), (1, (.int .i64 a_n))], [(32000, .tok 1 5 a_b.length)]⟩ : St)) (obs := [(AVle (.slice 0 0 (fun _ => []) .exact) (AV.list 1 eU8 (0 : Int) ([] : List Int) .exact))]) hn mix (hand_in hΓ rfl) (by kernel_rfl) ⟨av_nil, trivial⟩ ?_
  refine then_normal ?_
  refine awp_seq ?_
  obtain ⟨x1, hx1, h⟩ := bind_some h
  obtain ⟨hc2, h⟩ := chk_some h
  refine awp_region (rs := [⟨[], [(20000, 8)], (AV.list 1 eU8 (0 : Int) x1 (.own 20000)), [(20000, .tok 1 5 x1.length)]⟩]) (cs := [(9, (AV.list 1 eU8 (0 : Int) (a_b ++ x1) (.own 32000)))]) (live := [4]) (names := [32000]) (st' := (⟨[(4, (AV.list 1 eU8 (0 : Int) (a_b ++ x1) (.own 32000)))], [(32000, .tok 1 5 ((a_b ++ x1).length))]⟩ : St)) (obs := [(Spec Try.prog 32 [(.int .u64 (wu64 a_n))] [] (AV.list 1 eU8 (0 : Int) x1 (.own 20000)) [(20000, .tok 1 5 x1.length)]), (a_b.length = a_b.length), (a_b.length + x1.length ≤ room), (AVle (.slice 1 (a_b.length + x1.length) (appF a_b.length (fun i => eU8 (a_b.getD i (0 : Int))) (fun i => eU8 (x1.getD i (0 : Int)))) (.own 32000)) (AV.list 1 eU8 (0 : Int) (a_b ++ x1) (.own 32000))), (a_b.length + x1.length = (a_b ++ x1).length)]) hn mix (hand_in hΓ rfl) (by kernel_rfl) ⟨(ok_lockstepref02_Put (wu64 a_n) x1 hx1), rfl, hc2, av_app, (len_app _ _), trivial⟩ ?_
  refine then_normal ?_
  refine awp_ret ?_
  obtain rfl := Option.some.inj h
  exact ⟨.inl rfl, [(32000, 32000)], by kernel_rfl⟩

noncomputable def m_lockstepref04_Encode_L1 (a_f : TFunc) (i6 : Int) : (List (Int) × Int) → Option (LR (List (Int) × Int) (List (Int))) :=
  fun ((l10, i11) : (List (Int) × Int)) => (bif (decide ((i11 : Int) < (((a_f.Blocks.getD (i6).toNat (default : TBlock)).Phis).length : Int))) then (chk (InB i11 ((a_f.Blocks.getD (i6).toNat (default : TBlock)).Phis).length) ((m_lockstepref04_put l10 ((((a_f.Blocks.getD (i6).toNat (default : TBlock)).Phis).getD (i11).toNat (default : TPhi)).Bits)).bind fun x14 => (chk (InB i11 ((a_f.Blocks.getD (i6).toNat (default : TBlock)).Phis).length) ((m_lockstepref04_put x14 ((((a_f.Blocks.getD (i6).toNat (default : TBlock)).Phis).getD (i11).toNat (default : TPhi)).Dst)).bind fun x16 => (chk (InB i11 ((a_f.Blocks.getD (i6).toNat (default : TBlock)).Phis).length) ((m_lockstepref02_Row ((((a_f.Blocks.getD (i6).toNat (default : TBlock)).Phis).getD (i11).toNat (default : TPhi)).From)).bind fun x18 => (chk (x16.length + x18.length ≤ room) (chk (InB i11 ((a_f.Blocks.getD (i6).toNat (default : TBlock)).Phis).length) ((m_lockstepref02_Row ((((a_f.Blocks.getD (i6).toNat (default : TBlock)).Phis).getD (i11).toNat (default : TPhi)).Args)).bind fun x21 => (chk ((x16 ++ x18).length + x21.length ≤ room) (some (.next (((x16 ++ x18) ++ x21), (w64 (i11 + (1 : Int)))))))))))))))) else (some (.done l10)))
noncomputable def m_lockstepref04_Encode_L2 (a_f : TFunc) (i6 : Int) : (List (Int) × Int) → Option (LR (List (Int) × Int) (List (Int))) :=
  fun ((l26, i27) : (List (Int) × Int)) => (bif (decide ((i27 : Int) < (((a_f.Blocks.getD (i6).toNat (default : TBlock)).Ops).length : Int))) then (chk (InB i27 ((a_f.Blocks.getD (i6).toNat (default : TBlock)).Ops).length) ((m_lockstepref04_put l26 ((((a_f.Blocks.getD (i6).toNat (default : TBlock)).Ops).getD (i27).toNat (default : TOp)).Kind)).bind fun x30 => ((m_lockstepref04_put x30 ((((a_f.Blocks.getD (i6).toNat (default : TBlock)).Ops).getD (i27).toNat (default : TOp)).Bits)).bind fun x31 => ((m_lockstepref04_put x31 ((((a_f.Blocks.getD (i6).toNat (default : TBlock)).Ops).getD (i27).toNat (default : TOp)).Lanes)).bind fun x32 => ((m_lockstepref04_put x32 ((((a_f.Blocks.getD (i6).toNat (default : TBlock)).Ops).getD (i27).toNat (default : TOp)).Dst)).bind fun x33 => ((m_lockstepref02_Row ((((a_f.Blocks.getD (i6).toNat (default : TBlock)).Ops).getD (i27).toNat (default : TOp)).Args)).bind fun x34 => (chk (x33.length + x34.length ≤ room) ((m_lockstepref02_Put ((((a_f.Blocks.getD (i6).toNat (default : TBlock)).Ops).getD (i27).toNat (default : TOp)).Imm)).bind fun x36 => (chk ((x33 ++ x34).length + x36.length ≤ room) (some (.next (((x33 ++ x34) ++ x36), (w64 (i27 + (1 : Int))))))))))))))) else (some (.done l26)))
noncomputable def m_lockstepref04_Encode_L3 (a_f : TFunc) : (List (Int) × Int) → Option (LR (List (Int) × Int) (List (Int))) :=
  fun ((l5, i6) : (List (Int) × Int)) => (bif (decide ((i6 : Int) < (a_f.Blocks.length : Int))) then (chk (InB i6 a_f.Blocks.length) ((m_lockstepref04_put l5 (((a_f.Blocks.getD (i6).toNat (default : TBlock)).Phis).length : Int)).bind fun x9 => ((loopO (S := (List (Int) × Int)) (X := List (Int)) (m_lockstepref04_Encode_L1 a_f i6) (x9, (0 : Int))).bind (fun x23 => (((m_lockstepref04_put x23 (((a_f.Blocks.getD (i6).toNat (default : TBlock)).Ops).length : Int)).bind fun x25 => ((loopO (S := (List (Int) × Int)) (X := List (Int)) (m_lockstepref04_Encode_L2 a_f i6) (x25, (0 : Int))).bind (fun x38 => (((m_lockstepref04_put x38 ((a_f.Blocks.getD (i6).toNat (default : TBlock)).End.Kind)).bind fun x40 => ((m_lockstepref04_put x40 ((a_f.Blocks.getD (i6).toNat (default : TBlock)).End.Arg)).bind fun x41 => ((m_lockstepref02_Row ((a_f.Blocks.getD (i6).toNat (default : TBlock)).End.To)).bind fun x42 => (chk (x41.length + x42.length ≤ room) (some (.next ((x41 ++ x42), (w64 (i6 + (1 : Int))))))))))))))))))) else (some (.done l5)))
noncomputable def Q246 : AV := (.slice 0 0 (fun _ => []) .exact)
noncomputable def Q249 (a_f : TFunc) (i6 : Int) := (a_f.Blocks.getD (i6).toNat (default : TBlock))
noncomputable def Q244 : AV := (AV.list 1 eU8 (0 : Int) ([] : List Int) .exact)
noncomputable def Q243 (a_f : TFunc) (i6 : Int) := ((Q249 a_f i6).Phis)
noncomputable def Q248 (a_f : TFunc) (i6 : Int) (i11 : Int) := ((Q243 a_f i6).getD (i11).toNat (default : TPhi))
noncomputable def Q245 (a_f : TFunc) (i6 : Int) := (((Q249 a_f i6).Ops).length : Int)
noncomputable def Q241 (a_f : TFunc) (i6 : Int) (i27 : Int) := (((Q249 a_f i6).Ops).getD (i27).toNat (default : TOp))
noncomputable def Q242 (a_f : TFunc) : List AV := [(AV.list 1 eI64 (0 : Int) a_f.Params .none), (.int .i64 a_f.Ret), (AV.list 5 eTBlock (default : TBlock) a_f.Blocks .none)]
noncomputable def Q252 (l5 : List (Int)) (i6 : Int) (a_f : TFunc) := (⟨[(1, (.ptr 1 0)), (3, (AV.list 1 eU8 (0 : Int) l5 (.own 14))), (4, (.int .i64 i6))], [(1, .row (Q242 a_f)), (14, .tok 1 5 l5.length)]⟩ : St)
noncomputable def Q240 (a_f : TFunc) (i6 : Int) : List AV := [(AV.list 4 eTPhi (default : TPhi) (Q249 a_f i6).Phis .none), (AV.list 6 eTOp (default : TOp) (Q249 a_f i6).Ops .none), (.int .i64 (Q249 a_f i6).End.Kind), (.int .i64 (Q249 a_f i6).End.Arg), (AV.list 1 eI64 (0 : Int) (Q249 a_f i6).End.To .none)]
noncomputable def Q250 (l10 : List (Int)) (i6 : Int) (i11 : Int) (a_f : TFunc) := (⟨[(1, (.ptr 1 0)), (3, (AV.list 1 eU8 (0 : Int) l10 (.own 14))), (4, (.int .i64 i6)), (5, (.ptr 5 0)), (6, (.int .i64 i11))], [(1, .row (Q242 a_f)), (5, .row (Q240 a_f i6)), (14, .tok 1 5 l10.length)]⟩ : St)
noncomputable def Q251 (l26 : List (Int)) (i6 : Int) (i27 : Int) (a_f : TFunc) := (⟨[(1, (.ptr 1 0)), (3, (AV.list 1 eU8 (0 : Int) l26 (.own 14))), (4, (.int .i64 i6)), (5, (.ptr 5 0)), (7, (.int .i64 i27))], [(1, .row (Q242 a_f)), (5, .row (Q240 a_f i6)), (14, .tok 1 5 l26.length)]⟩ : St)
noncomputable def Q247 (a_f : TFunc) (i6 : Int) (i27 : Int) : List AV := [(.int .i64 (Q241 a_f i6 i27).Kind), (.int .i64 (Q241 a_f i6 i27).Bits), (.int .i64 (Q241 a_f i6 i27).Lanes), (.int .i64 (Q241 a_f i6 i27).Dst), (AV.list 1 eI64 (0 : Int) (Q241 a_f i6 i27).Args .none), (.int .u64 (Q241 a_f i6 i27).Imm)]
noncomputable def m_lockstepref04_Encode (a_f : TFunc) : Option (List (Int)) :=
  ((m_lockstepref04_May a_f).bind fun x1 => (bif (!x1) then (some ([] : List Int)) else ((m_lockstepref02_Row a_f.Params).bind fun x2 => ((m_lockstepref04_put x2 a_f.Ret).bind fun x3 => ((m_lockstepref04_put x3 (a_f.Blocks.length : Int)).bind fun x4 => ((loopO (S := (List (Int) × Int)) (X := List (Int)) (m_lockstepref04_Encode_L3 a_f) (x4, (0 : Int))).bind (fun x44 => ((some x44)))))))))
theorem ok_lockstepref04_Encode (a_f : TFunc) (r : List (Int)) (h : m_lockstepref04_Encode a_f = some r) : Spec Try.prog 16 [(.agg (eTFunc a_f))] [] (AV.list 1 eU8 (0 : Int) r (.own 20000)) [(20000, .tok 1 5 r.length)] := by
  refine spec_of_awp (fn := Try.f16) Try.func16 rfl rfl (by kernel_rfl) (fun Γ hn hΓ => ?_)
  have hn : Γ.n = 134 := hn
  unfold m_lockstepref04_Encode at h
  refine awp_seq ?_
  refine awp_region (rs := []) (cs := [(2, Q244)]) (live := [1]) (names := [1]) (st' := (⟨[(1, (.ptr 1 0))], [(1, .row (Q242 a_f))]⟩ : St)) (obs := [(AVle Q246 Q244)]) hn mix (no_hand hΓ) (by kernel_rfl) ⟨av_nil, trivial⟩ ?_
  refine then_normal ?_
  refine awp_seq ?_
  refine awp_seq ?_
  obtain ⟨x1, hx1, h⟩ := bind_some h
  refine awp_region (rs := [⟨[], [], (.bool x1), []⟩]) (cs := []) (live := [1, 11]) (names := [1]) (st' := (⟨[(1, (.ptr 1 0)), (11, (.bool (!x1)))], [(1, .row (Q242 a_f))]⟩ : St)) (obs := [(0 + 3 ≤ List.length (α := AV) (Q242 a_f)), (Spec Try.prog 12 [(.agg (eTFunc a_f))] [] (.bool x1) [])]) hn mix (no_hand hΓ) (by kernel_rfl) ⟨(nl rfl), (ok_lockstepref04_May a_f x1 hx1), trivial⟩ ?_
  refine then_normal ?_
  refine awp_cond (!x1) (by kernel_rfl) (fun hb => ?_) (fun hb => ?_)
  · replace h := cond_t hb h
    clear hb
    refine awp_seq ?_
    refine awp_region (rs := []) (cs := [(2, Q244)]) (live := [2]) (names := []) (st' := (⟨[(2, Q244)], []⟩ : St)) (obs := [(AVle Q246 Q244)]) hn mix (no_hand hΓ) (by kernel_rfl) ⟨av_nil, trivial⟩ ?_
    refine then_normal ?_
    refine awp_le (st' := (⟨[(2, (AV.list 1 eU8 (0 : Int) ([] : List Int) (.own 6002)))], [(6002, .tok 1 5 (([] : List Int).length))]⟩ : St)) (Le.trans (le_restrict_eq (st' := (⟨[(2, Q244)], []⟩ : St)) [2] [] (by kernel_rfl) (no_hand hΓ)) (Le.trans (le_tag (t := 2) (nm := 6002) (sz' := 1) (fun i => eU8 (([] : List Int).getD i (0 : Int))) 5 rfl rfl (.inl ⟨rfl, rfl⟩)) (le_restrict_eq (st' := (⟨[(2, (AV.list 1 eU8 (0 : Int) ([] : List Int) (.own 6002)))], [(6002, .tok 1 5 (([] : List Int).length))]⟩ : St)) [2] [6002] (by kernel_rfl) (no_hand hΓ)))) ?_
    refine awp_ret ?_
    refine then_ret ?_
    obtain rfl := Option.some.inj h
    exact ⟨.inl rfl, [(6002, 20000)], by kernel_rfl⟩
  · replace h := cond_f hb h
    clear hb
    refine awp_skip ?_
    refine then_normal ?_
    refine awp_seq ?_
    obtain ⟨x2, hx2, h⟩ := bind_some h
    refine awp_region (rs := [⟨[], [(20000, 14)], (AV.list 1 eU8 (0 : Int) x2 (.own 20000)), [(20000, .tok 1 5 x2.length)]⟩]) (cs := []) (live := [1, 3]) (names := [1, 14]) (st' := (⟨[(1, (.ptr 1 0)), (3, (AV.list 1 eU8 (0 : Int) x2 (.own 14)))], [(1, .row (Q242 a_f)), (14, .tok 1 5 x2.length)]⟩ : St)) (obs := [(0 < List.length (α := AV) (Q242 a_f)), (Spec Try.prog 30 [(AV.list 1 eI64 (0 : Int) a_f.Params .none)] [] (AV.list 1 eU8 (0 : Int) x2 (.own 20000)) [(20000, .tok 1 5 x2.length)])]) hn mix (no_hand hΓ) (by kernel_rfl) ⟨(nl rfl), (ok_lockstepref02_Row a_f.Params x2 hx2), trivial⟩ ?_
    refine then_normal ?_
    refine awp_seq ?_
    obtain ⟨x3, hx3, h⟩ := bind_some h
    obtain ⟨x4, hx4, h⟩ := bind_some h
    refine awp_region (rs := [⟨[(14, 32000)], [], (AV.list 1 eU8 (0 : Int) x3 (.own 32000)), [(32000, .tok 1 5 x3.length)]⟩, ⟨[(14, 32000)], [], (AV.list 1 eU8 (0 : Int) x4 (.own 32000)), [(32000, .tok 1 5 x4.length)]⟩]) (cs := []) (live := [1, 3]) (names := [1, 14]) (st' := (⟨[(1, (.ptr 1 0)), (3, (AV.list 1 eU8 (0 : Int) x4 (.own 14)))], [(1, .row (Q242 a_f)), (14, .tok 1 5 x4.length)]⟩ : St)) (obs := [(1 < List.length (α := AV) (Q242 a_f)), (Spec Try.prog 31 [(AV.list 1 eU8 (0 : Int) x2 (.own 32000)), (.int .i64 a_f.Ret)] [(32000, .tok 1 5 x2.length)] (AV.list 1 eU8 (0 : Int) x3 (.own 32000)) [(32000, .tok 1 5 x3.length)]), (2 < List.length (α := AV) (Q242 a_f)), (Spec Try.prog 31 [(AV.list 1 eU8 (0 : Int) x3 (.own 32000)), (.int .i64 (a_f.Blocks.length : Int))] [(32000, .tok 1 5 x3.length)] (AV.list 1 eU8 (0 : Int) x4 (.own 32000)) [(32000, .tok 1 5 x4.length)])]) hn mix (no_hand hΓ) (by kernel_rfl) ⟨(nl rfl), (ok_lockstepref04_put x2 a_f.Ret x3 hx3), (nl rfl), (ok_lockstepref04_put x3 (a_f.Blocks.length : Int) x4 hx4), trivial⟩ ?_
    refine then_normal ?_
    refine awp_seq ?_
    refine awp_seq ?_
    refine awp_region (rs := []) (cs := []) (live := [1, 3, 4]) (names := [1, 14]) (st' := (⟨[(1, (.ptr 1 0)), (3, (AV.list 1 eU8 (0 : Int) x4 (.own 14))), (4, (.int .i64 (0 : Int)))], [(1, .row (Q242 a_f)), (14, .tok 1 5 x4.length)]⟩ : St)) (obs := []) hn mix (no_hand hΓ) (by kernel_rfl) trivial ?_
    refine then_normal ?_
    refine awp_block ?_
    refine awp_le (st' := (fun ((l5, i6) : (List (Int) × Int)) => (Q252 l5 i6 a_f)) (x4, (0 : Int))) (Le.refl _ _) ?_
    obtain ⟨x44, hx44, h⟩ := bind_some h
    refine awp_loop (fun ((l5, i6) : (List (Int) × Int)) => (Q252 l5 i6 a_f)) _ (fun (l7 : List (Int)) (e : Exit) (st : St) => e = (.exit 0) ∧ Le Γ st (⟨[(3, (AV.list 1 eU8 (0 : Int) l7 (.own 14)))], [(14, .tok 1 5 l7.length)]⟩ : St)) ?_ hx44 ?_
    · rintro ⟨l5, i6⟩ y h
      unfold m_lockstepref04_Encode_L3 at h
      refine awp_seq ?_
      refine awp_seq ?_
      refine awp_region (rs := []) (cs := []) (live := [1, 3, 4, 27]) (names := [1, 14]) (st' := (⟨[(1, (.ptr 1 0)), (3, (AV.list 1 eU8 (0 : Int) l5 (.own 14))), (4, (.int .i64 i6)), (27, (.bool (decide ((i6 : Int) < (a_f.Blocks.length : Int)))))], [(1, .row (Q242 a_f)), (14, .tok 1 5 l5.length)]⟩ : St)) (obs := [(2 < List.length (α := AV) (Q242 a_f))]) hn mix (no_hand hΓ) (by kernel_rfl) ⟨(nl rfl), trivial⟩ ?_
      refine then_normal ?_
      refine awp_cond (decide ((i6 : Int) < (a_f.Blocks.length : Int))) (by kernel_rfl) (fun hb => ?_) (fun hb => ?_)
      · replace h := cond_t hb h
        clear hb
        refine awp_skip ?_
        refine then_normal ?_
        refine awp_seq ?_
        refine awp_block ?_
        refine awp_seq ?_
        obtain ⟨hc8, h⟩ := chk_some h
        refine awp_region (rs := []) (cs := []) (live := [1, 3, 4, 5]) (names := [1, 5, 14]) (st' := (⟨[(1, (.ptr 1 0)), (3, (AV.list 1 eU8 (0 : Int) l5 (.own 14))), (4, (.int .i64 i6)), (5, (.ptr 5 0))], [(1, .row (Q242 a_f)), (5, .row (Q240 a_f i6)), (14, .tok 1 5 l5.length)]⟩ : St)) (obs := [(2 < List.length (α := AV) (Q242 a_f)), (InB i6 a_f.Blocks.length), (0 + List.length (α := AV) (eTBlock (Q249 a_f i6)) ≤ List.length (α := AV) [Q246, Q246, (.int .i64 (0 : Int)), (.int .i64 (0 : Int)), Q246])]) hn mix (no_hand hΓ) (by kernel_rfl) ⟨(nl rfl), hc8, (nl rfl), trivial⟩ ?_
        refine then_normal ?_
        refine awp_seq ?_
        obtain ⟨x9, hx9, h⟩ := bind_some h
        refine awp_region (rs := [⟨[(14, 32000)], [], (AV.list 1 eU8 (0 : Int) x9 (.own 32000)), [(32000, .tok 1 5 x9.length)]⟩]) (cs := []) (live := [1, 3, 4, 5]) (names := [1, 5, 14]) (st' := (⟨[(1, (.ptr 1 0)), (3, (AV.list 1 eU8 (0 : Int) x9 (.own 14))), (4, (.int .i64 i6)), (5, (.ptr 5 0))], [(1, .row (Q242 a_f)), (5, .row (Q240 a_f i6)), (14, .tok 1 5 x9.length)]⟩ : St)) (obs := [(0 < List.length (α := AV) (Q240 a_f i6)), (Spec Try.prog 31 [(AV.list 1 eU8 (0 : Int) l5 (.own 32000)), (.int .i64 ((Q243 a_f i6).length : Int))] [(32000, .tok 1 5 l5.length)] (AV.list 1 eU8 (0 : Int) x9 (.own 32000)) [(32000, .tok 1 5 x9.length)])]) hn mix (no_hand hΓ) (by kernel_rfl) ⟨(nl rfl), (ok_lockstepref04_put l5 ((Q243 a_f i6).length : Int) x9 hx9), trivial⟩ ?_
        refine then_normal ?_
        refine awp_seq ?_
        refine awp_seq ?_
        refine awp_region (rs := []) (cs := []) (live := [1, 3, 4, 5, 6]) (names := [1, 5, 14]) (st' := (⟨[(1, (.ptr 1 0)), (3, (AV.list 1 eU8 (0 : Int) x9 (.own 14))), (4, (.int .i64 i6)), (5, (.ptr 5 0)), (6, (.int .i64 (0 : Int)))], [(1, .row (Q242 a_f)), (5, .row (Q240 a_f i6)), (14, .tok 1 5 x9.length)]⟩ : St)) (obs := []) hn mix (no_hand hΓ) (by kernel_rfl) trivial ?_
        refine then_normal ?_
        refine awp_block ?_
        refine awp_le (st' := (fun ((l10, i11) : (List (Int) × Int)) => (Q250 l10 i6 i11 a_f)) (x9, (0 : Int))) (Le.refl _ _) ?_
        obtain ⟨x23, hx23, h⟩ := bind_some h
        refine awp_loop (fun ((l10, i11) : (List (Int) × Int)) => (Q250 l10 i6 i11 a_f)) _ (fun (l12 : List (Int)) (e : Exit) (st : St) => e = (.exit 2) ∧ Le Γ st (⟨[(1, (.ptr 1 0)), (3, (AV.list 1 eU8 (0 : Int) l12 (.own 14))), (4, (.int .i64 i6)), (5, (.ptr 5 0))], [(1, .row (Q242 a_f)), (5, .row (Q240 a_f i6)), (14, .tok 1 5 l12.length)]⟩ : St)) ?_ hx23 ?_
        · rintro ⟨l10, i11⟩ y h
          unfold m_lockstepref04_Encode_L1 at h
          refine awp_seq ?_
          refine awp_seq ?_
          refine awp_region (rs := []) (cs := []) (live := [1, 3, 4, 5, 6, 44]) (names := [1, 5, 14]) (st' := (⟨[(1, (.ptr 1 0)), (3, (AV.list 1 eU8 (0 : Int) l10 (.own 14))), (4, (.int .i64 i6)), (5, (.ptr 5 0)), (6, (.int .i64 i11)), (44, (.bool (decide ((i11 : Int) < ((Q243 a_f i6).length : Int)))))], [(1, .row (Q242 a_f)), (5, .row (Q240 a_f i6)), (14, .tok 1 5 l10.length)]⟩ : St)) (obs := [(0 < List.length (α := AV) (Q240 a_f i6))]) hn mix (no_hand hΓ) (by kernel_rfl) ⟨(nl rfl), trivial⟩ ?_
          refine then_normal ?_
          refine awp_cond (decide ((i11 : Int) < ((Q243 a_f i6).length : Int))) (by kernel_rfl) (fun hb => ?_) (fun hb => ?_)
          · replace h := cond_t hb h
            clear hb
            refine awp_skip ?_
            refine then_normal ?_
            refine awp_seq ?_
            refine awp_block ?_
            refine awp_seq ?_
            obtain ⟨hc13, h⟩ := chk_some h
            obtain ⟨x14, hx14, h⟩ := bind_some h
            obtain ⟨hc15, h⟩ := chk_some h
            obtain ⟨x16, hx16, h⟩ := bind_some h
            refine awp_region (rs := [⟨[(14, 32000)], [], (AV.list 1 eU8 (0 : Int) x14 (.own 32000)), [(32000, .tok 1 5 x14.length)]⟩, ⟨[(14, 32000)], [], (AV.list 1 eU8 (0 : Int) x16 (.own 32000)), [(32000, .tok 1 5 x16.length)]⟩]) (cs := []) (live := [1, 3, 4, 5, 6]) (names := [1, 5, 14]) (st' := (⟨[(1, (.ptr 1 0)), (3, (AV.list 1 eU8 (0 : Int) x16 (.own 14))), (4, (.int .i64 i6)), (5, (.ptr 5 0)), (6, (.int .i64 i11))], [(1, .row (Q242 a_f)), (5, .row (Q240 a_f i6)), (14, .tok 1 5 x16.length)]⟩ : St)) (obs := [(0 < List.length (α := AV) (Q240 a_f i6)), (InB i11 (Q243 a_f i6).length), (Spec Try.prog 31 [(AV.list 1 eU8 (0 : Int) l10 (.own 32000)), (.int .i64 (Q248 a_f i6 i11).Bits)] [(32000, .tok 1 5 l10.length)] (AV.list 1 eU8 (0 : Int) x14 (.own 32000)) [(32000, .tok 1 5 x14.length)]), (0 < List.length (α := AV) (Q240 a_f i6)), (InB i11 (Q243 a_f i6).length), (Spec Try.prog 31 [(AV.list 1 eU8 (0 : Int) x14 (.own 32000)), (.int .i64 (Q248 a_f i6 i11).Dst)] [(32000, .tok 1 5 x14.length)] (AV.list 1 eU8 (0 : Int) x16 (.own 32000)) [(32000, .tok 1 5 x16.length)])]) hn mix (no_hand hΓ) (by kernel_rfl) ⟨(nl rfl), hc13, (ok_lockstepref04_put l10 ((Q248 a_f i6 i11).Bits) x14 hx14), (nl rfl), hc15, (ok_lockstepref04_put x14 ((Q248 a_f i6 i11).Dst) x16 hx16), trivial⟩ ?_
            refine then_normal ?_
            obtain ⟨hc17, h⟩ := chk_some h
            obtain ⟨x18, hx18, h⟩ := bind_some h
            obtain ⟨hc19, h⟩ := chk_some h
            obtain ⟨hc20, h⟩ := chk_some h
            obtain ⟨x21, hx21, h⟩ := bind_some h
            obtain ⟨hc22, h⟩ := chk_some h
            refine awp_region (rs := [⟨[], [(20000, 69)], (AV.list 1 eU8 (0 : Int) x18 (.own 20000)), [(20000, .tok 1 5 x18.length)]⟩, ⟨[], [(20000, 77)], (AV.list 1 eU8 (0 : Int) x21 (.own 20000)), [(20000, .tok 1 5 x21.length)]⟩]) (cs := [(70, (AV.list 1 eU8 (0 : Int) (x16 ++ x18) (.own 14))), (78, (AV.list 1 eU8 (0 : Int) ((x16 ++ x18) ++ x21) (.own 14)))]) (live := [1, 3, 4, 5, 6]) (names := [1, 5, 14]) (st' := (⟨[(1, (.ptr 1 0)), (3, (AV.list 1 eU8 (0 : Int) ((x16 ++ x18) ++ x21) (.own 14))), (4, (.int .i64 i6)), (5, (.ptr 5 0)), (6, (.int .i64 i11))], [(1, .row (Q242 a_f)), (5, .row (Q240 a_f i6)), (14, .tok 1 5 (((x16 ++ x18) ++ x21).length))]⟩ : St)) (obs := [(0 < List.length (α := AV) (Q240 a_f i6)), (InB i11 (Q243 a_f i6).length), (Spec Try.prog 30 [(AV.list 1 eI64 (0 : Int) (Q248 a_f i6 i11).From .none)] [] (AV.list 1 eU8 (0 : Int) x18 (.own 20000)) [(20000, .tok 1 5 x18.length)]), (x16.length = x16.length), (x16.length + x18.length ≤ room), (AVle (.slice 1 (x16.length + x18.length) (appF x16.length (fun i => eU8 (x16.getD i (0 : Int))) (fun i => eU8 (x18.getD i (0 : Int)))) (.own 14)) (AV.list 1 eU8 (0 : Int) (x16 ++ x18) (.own 14))), (x16.length + x18.length = (x16 ++ x18).length), (0 < List.length (α := AV) (Q240 a_f i6)), (InB i11 (Q243 a_f i6).length), (Spec Try.prog 30 [(AV.list 1 eI64 (0 : Int) (Q248 a_f i6 i11).Args .none)] [] (AV.list 1 eU8 (0 : Int) x21 (.own 20000)) [(20000, .tok 1 5 x21.length)]), ((x16 ++ x18).length = (x16 ++ x18).length), ((x16 ++ x18).length + x21.length ≤ room), (AVle (.slice 1 ((x16 ++ x18).length + x21.length) (appF (x16 ++ x18).length (fun i => eU8 ((x16 ++ x18).getD i (0 : Int))) (fun i => eU8 (x21.getD i (0 : Int)))) (.own 14)) (AV.list 1 eU8 (0 : Int) ((x16 ++ x18) ++ x21) (.own 14))), ((x16 ++ x18).length + x21.length = ((x16 ++ x18) ++ x21).length)]) hn mix (no_hand hΓ) (by kernel_rfl) ⟨(nl rfl), hc17, (ok_lockstepref02_Row ((Q248 a_f i6 i11).From) x18 hx18), rfl, hc19, av_app, (len_app _ _), (nl rfl), hc20, (ok_lockstepref02_Row ((Q248 a_f i6 i11).Args) x21 hx21), rfl, hc22, av_app, (len_app _ _), trivial⟩ ?_
            refine block_normal ?_
            refine then_normal ?_
            refine awp_region (rs := []) (cs := []) (live := [1, 3, 4, 5, 6]) (names := [1, 5, 14]) (st' := (⟨[(1, (.ptr 1 0)), (3, (AV.list 1 eU8 (0 : Int) ((x16 ++ x18) ++ x21) (.own 14))), (4, (.int .i64 i6)), (5, (.ptr 5 0)), (6, (.int .i64 (w64 (i11 + (1 : Int)))))], [(1, .row (Q242 a_f)), (5, .row (Q240 a_f i6)), (14, .tok 1 5 (((x16 ++ x18) ++ x21).length))]⟩ : St)) (obs := []) hn mix (no_hand hΓ) (by kernel_rfl) trivial ?_
            obtain rfl := Option.some.inj h
            exact ⟨rfl, Le.refl _ _⟩
          · replace h := cond_f hb h
            clear hb
            refine awp_exit ?_
            refine then_exit ?_
            obtain rfl := Option.some.inj h
            exact ⟨(by intro hh; cases hh), rfl, le_restrict_eq [1, 3, 4, 5] [1, 5, 14] (by kernel_rfl) (no_hand hΓ)⟩
        · clear hx23
          rintro e st' ⟨rfl, hl24⟩
          refine block_here ?_
          refine then_normal ?_
          refine awp_le hl24 ?_
          refine awp_seq ?_
          obtain ⟨x25, hx25, h⟩ := bind_some h
          refine awp_region (rs := [⟨[(14, 32000)], [], (AV.list 1 eU8 (0 : Int) x25 (.own 32000)), [(32000, .tok 1 5 x25.length)]⟩]) (cs := []) (live := [1, 3, 4, 5]) (names := [1, 5, 14]) (st' := (⟨[(1, (.ptr 1 0)), (3, (AV.list 1 eU8 (0 : Int) x25 (.own 14))), (4, (.int .i64 i6)), (5, (.ptr 5 0))], [(1, .row (Q242 a_f)), (5, .row (Q240 a_f i6)), (14, .tok 1 5 x25.length)]⟩ : St)) (obs := [(1 < List.length (α := AV) (Q240 a_f i6)), (Spec Try.prog 31 [(AV.list 1 eU8 (0 : Int) x23 (.own 32000)), (.int .i64 (Q245 a_f i6))] [(32000, .tok 1 5 x23.length)] (AV.list 1 eU8 (0 : Int) x25 (.own 32000)) [(32000, .tok 1 5 x25.length)])]) hn mix (no_hand hΓ) (by kernel_rfl) ⟨(nl rfl), (ok_lockstepref04_put x23 (Q245 a_f i6) x25 hx25), trivial⟩ ?_
          refine then_normal ?_
          refine awp_seq ?_
          refine awp_seq ?_
          refine awp_region (rs := []) (cs := []) (live := [1, 3, 4, 5, 7]) (names := [1, 5, 14]) (st' := (⟨[(1, (.ptr 1 0)), (3, (AV.list 1 eU8 (0 : Int) x25 (.own 14))), (4, (.int .i64 i6)), (5, (.ptr 5 0)), (7, (.int .i64 (0 : Int)))], [(1, .row (Q242 a_f)), (5, .row (Q240 a_f i6)), (14, .tok 1 5 x25.length)]⟩ : St)) (obs := []) hn mix (no_hand hΓ) (by kernel_rfl) trivial ?_
          refine then_normal ?_
          refine awp_block ?_
          refine awp_le (st' := (fun ((l26, i27) : (List (Int) × Int)) => (Q251 l26 i6 i27 a_f)) (x25, (0 : Int))) (Le.refl _ _) ?_
          obtain ⟨x38, hx38, h⟩ := bind_some h
          refine awp_loop (fun ((l26, i27) : (List (Int) × Int)) => (Q251 l26 i6 i27 a_f)) _ (fun (l28 : List (Int)) (e : Exit) (st : St) => e = (.exit 4) ∧ Le Γ st (⟨[(1, (.ptr 1 0)), (3, (AV.list 1 eU8 (0 : Int) l28 (.own 14))), (4, (.int .i64 i6)), (5, (.ptr 5 0))], [(1, .row (Q242 a_f)), (5, .row (Q240 a_f i6)), (14, .tok 1 5 l28.length)]⟩ : St)) ?_ hx38 ?_
          · rintro ⟨l26, i27⟩ y h
            unfold m_lockstepref04_Encode_L2 at h
            refine awp_seq ?_
            refine awp_seq ?_
            refine awp_region (rs := []) (cs := []) (live := [1, 3, 4, 5, 7, 88]) (names := [1, 5, 14]) (st' := (⟨[(1, (.ptr 1 0)), (3, (AV.list 1 eU8 (0 : Int) l26 (.own 14))), (4, (.int .i64 i6)), (5, (.ptr 5 0)), (7, (.int .i64 i27)), (88, (.bool (decide ((i27 : Int) < (Q245 a_f i6)))))], [(1, .row (Q242 a_f)), (5, .row (Q240 a_f i6)), (14, .tok 1 5 l26.length)]⟩ : St)) (obs := [(1 < List.length (α := AV) (Q240 a_f i6))]) hn mix (no_hand hΓ) (by kernel_rfl) ⟨(nl rfl), trivial⟩ ?_
            refine then_normal ?_
            refine awp_cond (decide ((i27 : Int) < (Q245 a_f i6))) (by kernel_rfl) (fun hb => ?_) (fun hb => ?_)
            · replace h := cond_t hb h
              clear hb
              refine awp_skip ?_
              refine then_normal ?_
              refine awp_seq ?_
              refine awp_block ?_
              refine awp_seq ?_
              obtain ⟨hc29, h⟩ := chk_some h
              refine awp_region (rs := []) (cs := []) (live := [1, 3, 4, 5, 7, 8]) (names := [1, 5, 8, 14]) (st' := (⟨[(1, (.ptr 1 0)), (3, (AV.list 1 eU8 (0 : Int) l26 (.own 14))), (4, (.int .i64 i6)), (5, (.ptr 5 0)), (7, (.int .i64 i27)), (8, (.ptr 8 0))], [(1, .row (Q242 a_f)), (5, .row (Q240 a_f i6)), (8, .row (Q247 a_f i6 i27)), (14, .tok 1 5 l26.length)]⟩ : St)) (obs := [(1 < List.length (α := AV) (Q240 a_f i6)), (InB i27 ((Q249 a_f i6).Ops).length), (0 + List.length (α := AV) (eTOp (Q241 a_f i6 i27)) ≤ List.length (α := AV) [(.int .i64 (0 : Int)), (.int .i64 (0 : Int)), (.int .i64 (0 : Int)), (.int .i64 (0 : Int)), Q246, (.int .u64 (0 : Int))])]) hn mix (no_hand hΓ) (by kernel_rfl) ⟨(nl rfl), hc29, (nl rfl), trivial⟩ ?_
              refine then_normal ?_
              refine awp_seq ?_
              obtain ⟨x30, hx30, h⟩ := bind_some h
              obtain ⟨x31, hx31, h⟩ := bind_some h
              obtain ⟨x32, hx32, h⟩ := bind_some h
              obtain ⟨x33, hx33, h⟩ := bind_some h
              refine awp_region (rs := [⟨[(14, 32000)], [], (AV.list 1 eU8 (0 : Int) x30 (.own 32000)), [(32000, .tok 1 5 x30.length)]⟩, ⟨[(14, 32000)], [], (AV.list 1 eU8 (0 : Int) x31 (.own 32000)), [(32000, .tok 1 5 x31.length)]⟩, ⟨[(14, 32000)], [], (AV.list 1 eU8 (0 : Int) x32 (.own 32000)), [(32000, .tok 1 5 x32.length)]⟩, ⟨[(14, 32000)], [], (AV.list 1 eU8 (0 : Int) x33 (.own 32000)), [(32000, .tok 1 5 x33.length)]⟩]) (cs := []) (live := [1, 3, 4, 5, 7, 8]) (names := [1, 5, 8, 14]) (st' := (⟨[(1, (.ptr 1 0)), (3, (AV.list 1 eU8 (0 : Int) x33 (.own 14))), (4, (.int .i64 i6)), (5, (.ptr 5 0)), (7, (.int .i64 i27)), (8, (.ptr 8 0))], [(1, .row (Q242 a_f)), (5, .row (Q240 a_f i6)), (8, .row (Q247 a_f i6 i27)), (14, .tok 1 5 x33.length)]⟩ : St)) (obs := [(0 < List.length (α := AV) (Q247 a_f i6 i27)), (Spec Try.prog 31 [(AV.list 1 eU8 (0 : Int) l26 (.own 32000)), (.int .i64 (Q241 a_f i6 i27).Kind)] [(32000, .tok 1 5 l26.length)] (AV.list 1 eU8 (0 : Int) x30 (.own 32000)) [(32000, .tok 1 5 x30.length)]), (1 < List.length (α := AV) (Q247 a_f i6 i27)), (Spec Try.prog 31 [(AV.list 1 eU8 (0 : Int) x30 (.own 32000)), (.int .i64 (Q241 a_f i6 i27).Bits)] [(32000, .tok 1 5 x30.length)] (AV.list 1 eU8 (0 : Int) x31 (.own 32000)) [(32000, .tok 1 5 x31.length)]), (2 < List.length (α := AV) (Q247 a_f i6 i27)), (Spec Try.prog 31 [(AV.list 1 eU8 (0 : Int) x31 (.own 32000)), (.int .i64 (Q241 a_f i6 i27).Lanes)] [(32000, .tok 1 5 x31.length)] (AV.list 1 eU8 (0 : Int) x32 (.own 32000)) [(32000, .tok 1 5 x32.length)]), (3 < List.length (α := AV) (Q247 a_f i6 i27)), (Spec Try.prog 31 [(AV.list 1 eU8 (0 : Int) x32 (.own 32000)), (.int .i64 (Q241 a_f i6 i27).Dst)] [(32000, .tok 1 5 x32.length)] (AV.list 1 eU8 (0 : Int) x33 (.own 32000)) [(32000, .tok 1 5 x33.length)])]) hn mix (no_hand hΓ) (by kernel_rfl) ⟨(nl rfl), (ok_lockstepref04_put l26 ((Q241 a_f i6 i27).Kind) x30 hx30), (nl rfl), (ok_lockstepref04_put x30 ((Q241 a_f i6 i27).Bits) x31 hx31), (nl rfl), (ok_lockstepref04_put x31 ((Q241 a_f i6 i27).Lanes) x32 hx32), (nl rfl), (ok_lockstepref04_put x32 ((Q241 a_f i6 i27).Dst) x33 hx33), trivial⟩ ?_
              refine then_normal ?_
              obtain ⟨x34, hx34, h⟩ := bind_some h
              obtain ⟨hc35, h⟩ := chk_some h
              obtain ⟨x36, hx36, h⟩ := bind_some h
              obtain ⟨hc37, h⟩ := chk_some h
              refine awp_region (rs := [⟨[], [(20000, 112)], (AV.list 1 eU8 (0 : Int) x34 (.own 20000)), [(20000, .tok 1 5 x34.length)]⟩, ⟨[], [(20000, 116)], (AV.list 1 eU8 (0 : Int) x36 (.own 20000)), [(20000, .tok 1 5 x36.length)]⟩]) (cs := [(113, (AV.list 1 eU8 (0 : Int) (x33 ++ x34) (.own 14))), (117, (AV.list 1 eU8 (0 : Int) ((x33 ++ x34) ++ x36) (.own 14)))]) (live := [1, 3, 4, 5, 7]) (names := [1, 5, 14]) (st' := (⟨[(1, (.ptr 1 0)), (3, (AV.list 1 eU8 (0 : Int) ((x33 ++ x34) ++ x36) (.own 14))), (4, (.int .i64 i6)), (5, (.ptr 5 0)), (7, (.int .i64 i27))], [(1, .row (Q242 a_f)), (5, .row (Q240 a_f i6)), (14, .tok 1 5 (((x33 ++ x34) ++ x36).length))]⟩ : St)) (obs := [(4 < List.length (α := AV) (Q247 a_f i6 i27)), (Spec Try.prog 30 [(AV.list 1 eI64 (0 : Int) (Q241 a_f i6 i27).Args .none)] [] (AV.list 1 eU8 (0 : Int) x34 (.own 20000)) [(20000, .tok 1 5 x34.length)]), (x33.length = x33.length), (x33.length + x34.length ≤ room), (AVle (.slice 1 (x33.length + x34.length) (appF x33.length (fun i => eU8 (x33.getD i (0 : Int))) (fun i => eU8 (x34.getD i (0 : Int)))) (.own 14)) (AV.list 1 eU8 (0 : Int) (x33 ++ x34) (.own 14))), (x33.length + x34.length = (x33 ++ x34).length), (5 < List.length (α := AV) (Q247 a_f i6 i27)), (Spec Try.prog 32 [(.int .u64 (Q241 a_f i6 i27).Imm)] [] (AV.list 1 eU8 (0 : Int) x36 (.own 20000)) [(20000, .tok 1 5 x36.length)]), ((x33 ++ x34).length = (x33 ++ x34).length), ((x33 ++ x34).length + x36.length ≤ room), (AVle (.slice 1 ((x33 ++ x34).length + x36.length) (appF (x33 ++ x34).length (fun i => eU8 ((x33 ++ x34).getD i (0 : Int))) (fun i => eU8 (x36.getD i (0 : Int)))) (.own 14)) (AV.list 1 eU8 (0 : Int) ((x33 ++ x34) ++ x36) (.own 14))), ((x33 ++ x34).length + x36.length = ((x33 ++ x34) ++ x36).length)]) hn mix (no_hand hΓ) (by kernel_rfl) ⟨(nl rfl), (ok_lockstepref02_Row ((Q241 a_f i6 i27).Args) x34 hx34), rfl, hc35, av_app, (len_app _ _), (nl rfl), (ok_lockstepref02_Put ((Q241 a_f i6 i27).Imm) x36 hx36), rfl, hc37, av_app, (len_app _ _), trivial⟩ ?_
              refine block_normal ?_
              refine then_normal ?_
              refine awp_region (rs := []) (cs := []) (live := [1, 3, 4, 5, 7]) (names := [1, 5, 14]) (st' := (⟨[(1, (.ptr 1 0)), (3, (AV.list 1 eU8 (0 : Int) ((x33 ++ x34) ++ x36) (.own 14))), (4, (.int .i64 i6)), (5, (.ptr 5 0)), (7, (.int .i64 (w64 (i27 + (1 : Int)))))], [(1, .row (Q242 a_f)), (5, .row (Q240 a_f i6)), (14, .tok 1 5 (((x33 ++ x34) ++ x36).length))]⟩ : St)) (obs := []) hn mix (no_hand hΓ) (by kernel_rfl) trivial ?_
              obtain rfl := Option.some.inj h
              exact ⟨rfl, Le.refl _ _⟩
            · replace h := cond_f hb h
              clear hb
              refine awp_exit ?_
              refine then_exit ?_
              obtain rfl := Option.some.inj h
              exact ⟨(by intro hh; cases hh), rfl, le_restrict_eq [1, 3, 4, 5] [1, 5, 14] (by kernel_rfl) (no_hand hΓ)⟩
          · clear hx38
            rintro e st' ⟨rfl, hl39⟩
            refine block_here ?_
            refine then_normal ?_
            refine awp_le hl39 ?_
            refine awp_seq ?_
            obtain ⟨x40, hx40, h⟩ := bind_some h
            obtain ⟨x41, hx41, h⟩ := bind_some h
            refine awp_region (rs := [⟨[(14, 32000)], [], (AV.list 1 eU8 (0 : Int) x40 (.own 32000)), [(32000, .tok 1 5 x40.length)]⟩, ⟨[(14, 32000)], [], (AV.list 1 eU8 (0 : Int) x41 (.own 32000)), [(32000, .tok 1 5 x41.length)]⟩]) (cs := []) (live := [1, 3, 4, 5]) (names := [1, 5, 14]) (st' := (⟨[(1, (.ptr 1 0)), (3, (AV.list 1 eU8 (0 : Int) x41 (.own 14))), (4, (.int .i64 i6)), (5, (.ptr 5 0))], [(1, .row (Q242 a_f)), (5, .row (Q240 a_f i6)), (14, .tok 1 5 x41.length)]⟩ : St)) (obs := [(2 < List.length (α := AV) (Q240 a_f i6)), (Spec Try.prog 31 [(AV.list 1 eU8 (0 : Int) x38 (.own 32000)), (.int .i64 (Q249 a_f i6).End.Kind)] [(32000, .tok 1 5 x38.length)] (AV.list 1 eU8 (0 : Int) x40 (.own 32000)) [(32000, .tok 1 5 x40.length)]), (3 < List.length (α := AV) (Q240 a_f i6)), (Spec Try.prog 31 [(AV.list 1 eU8 (0 : Int) x40 (.own 32000)), (.int .i64 (Q249 a_f i6).End.Arg)] [(32000, .tok 1 5 x40.length)] (AV.list 1 eU8 (0 : Int) x41 (.own 32000)) [(32000, .tok 1 5 x41.length)])]) hn mix (no_hand hΓ) (by kernel_rfl) ⟨(nl rfl), (ok_lockstepref04_put x38 ((Q249 a_f i6).End.Kind) x40 hx40), (nl rfl), (ok_lockstepref04_put x40 ((Q249 a_f i6).End.Arg) x41 hx41), trivial⟩ ?_
            refine then_normal ?_
            obtain ⟨x42, hx42, h⟩ := bind_some h
            obtain ⟨hc43, h⟩ := chk_some h
            refine awp_region (rs := [⟨[], [(20000, 131)], (AV.list 1 eU8 (0 : Int) x42 (.own 20000)), [(20000, .tok 1 5 x42.length)]⟩]) (cs := [(132, (AV.list 1 eU8 (0 : Int) (x41 ++ x42) (.own 14)))]) (live := [1, 3, 4]) (names := [1, 14]) (st' := (⟨[(1, (.ptr 1 0)), (3, (AV.list 1 eU8 (0 : Int) (x41 ++ x42) (.own 14))), (4, (.int .i64 i6))], [(1, .row (Q242 a_f)), (14, .tok 1 5 ((x41 ++ x42).length))]⟩ : St)) (obs := [(4 < List.length (α := AV) (Q240 a_f i6)), (Spec Try.prog 30 [(AV.list 1 eI64 (0 : Int) (Q249 a_f i6).End.To .none)] [] (AV.list 1 eU8 (0 : Int) x42 (.own 20000)) [(20000, .tok 1 5 x42.length)]), (x41.length = x41.length), (x41.length + x42.length ≤ room), (AVle (.slice 1 (x41.length + x42.length) (appF x41.length (fun i => eU8 (x41.getD i (0 : Int))) (fun i => eU8 (x42.getD i (0 : Int)))) (.own 14)) (AV.list 1 eU8 (0 : Int) (x41 ++ x42) (.own 14))), (x41.length + x42.length = (x41 ++ x42).length)]) hn mix (no_hand hΓ) (by kernel_rfl) ⟨(nl rfl), (ok_lockstepref02_Row ((Q249 a_f i6).End.To) x42 hx42), rfl, hc43, av_app, (len_app _ _), trivial⟩ ?_
            refine block_normal ?_
            refine then_normal ?_
            refine awp_region (rs := []) (cs := []) (live := [1, 3, 4]) (names := [1, 14]) (st' := (⟨[(1, (.ptr 1 0)), (3, (AV.list 1 eU8 (0 : Int) (x41 ++ x42) (.own 14))), (4, (.int .i64 (w64 (i6 + (1 : Int)))))], [(1, .row (Q242 a_f)), (14, .tok 1 5 ((x41 ++ x42).length))]⟩ : St)) (obs := []) hn mix (no_hand hΓ) (by kernel_rfl) trivial ?_
            obtain rfl := Option.some.inj h
            exact ⟨rfl, Le.refl _ _⟩
      · replace h := cond_f hb h
        clear hb
        refine awp_exit ?_
        refine then_exit ?_
        obtain rfl := Option.some.inj h
        exact ⟨(by intro hh; cases hh), rfl, le_restrict_eq [3] [14] (by kernel_rfl) (no_hand hΓ)⟩
    · clear hx44
      rintro e st' ⟨rfl, hl45⟩
      refine block_here ?_
      refine then_normal ?_
      refine awp_le hl45 ?_
      refine awp_seq ?_
      refine awp_region (rs := []) (cs := []) (live := [2]) (names := [14]) (st' := (⟨[(2, (AV.list 1 eU8 (0 : Int) x44 (.own 14)))], [(14, .tok 1 5 x44.length)]⟩ : St)) (obs := []) hn mix (no_hand hΓ) (by kernel_rfl) trivial ?_
      refine then_normal ?_
      refine awp_ret ?_
      obtain rfl := Option.some.inj h
      exact ⟨.inl rfl, [(14, 20000)], by kernel_rfl⟩

noncomputable def m_lockstepref02_Ints_L1 (a_a : List (Int)) (a_b : List (Int)) : Int → Option (LR Int (Unit ⊕ Bool)) :=
  fun (i1 : Int) => (bif (decide ((i1 : Int) < (a_a.length : Int))) then (chk (InB i1 a_a.length) (chk (InB i1 a_b.length) (bif (((a_a.getD (i1).toNat (0 : Int)) : Int) != (a_b.getD (i1).toNat (0 : Int))) then (some (.done (.inr false))) else (some (.next (w64 (i1 + (1 : Int)))))))) else (some (.done (.inl ()))))
noncomputable def Q253 (a_a : List (Int)) : AV := (AV.list 1 eI64 (0 : Int) a_a .none)
noncomputable def Q254 (a_b : List (Int)) : AV := (AV.list 1 eI64 (0 : Int) a_b .none)
noncomputable def m_lockstepref02_Ints (a_a : List (Int)) (a_b : List (Int)) : Option Bool :=
  (bif (((a_a.length : Int) : Int) != (a_b.length : Int)) then (some false) else ((loopO (S := Int) (X := (Unit ⊕ Bool)) (m_lockstepref02_Ints_L1 a_a a_b) (0 : Int)).bind (fun x4 => (match x4 with | (.inl _) => (some true) | (.inr r6) => (some r6)))))
theorem ok_lockstepref02_Ints (a_a : List (Int)) (a_b : List (Int)) (r : Bool) (h : m_lockstepref02_Ints a_a a_b = some r) : Spec Try.prog 34 [(AV.list 1 eI64 (0 : Int) a_a .none), (AV.list 1 eI64 (0 : Int) a_b .none)] [] (.bool r) [] := by
  refine spec_of_awp (fn := Try.f34) Try.func34 rfl rfl (by kernel_rfl) (fun Γ hn hΓ => ?_)
  have hn : Γ.n = 26 := hn
  unfold m_lockstepref02_Ints at h
  refine awp_seq ?_
  refine awp_region (rs := []) (cs := []) (live := [0, 1]) (names := []) (st' := (⟨[(0, (Q253 a_a)), (1, (Q254 a_b))], []⟩ : St)) (obs := []) hn mix (no_hand hΓ) (by kernel_rfl) trivial ?_
  refine then_normal ?_
  refine awp_seq ?_
  refine awp_seq ?_
  refine awp_region (rs := []) (cs := []) (live := [0, 1, 10]) (names := []) (st' := (⟨[(0, (Q253 a_a)), (1, (Q254 a_b)), (10, (.bool (((a_a.length : Int) : Int) != (a_b.length : Int))))], []⟩ : St)) (obs := []) hn mix (no_hand hΓ) (by kernel_rfl) trivial ?_
  refine then_normal ?_
  refine awp_cond (((a_a.length : Int) : Int) != (a_b.length : Int)) (by kernel_rfl) (fun hb => ?_) (fun hb => ?_)
  · replace h := cond_t hb h
    clear hb
    refine awp_seq ?_
    refine awp_region (rs := []) (cs := []) (live := [4]) (names := []) (st' := (⟨[(4, (.bool false))], []⟩ : St)) (obs := []) hn mix (no_hand hΓ) (by kernel_rfl) trivial ?_
    refine then_normal ?_
    refine awp_ret ?_
    refine then_ret ?_
    obtain rfl := Option.some.inj h
    exact ⟨.inl rfl, [], by kernel_rfl⟩
  · replace h := cond_f hb h
    clear hb
    refine awp_skip ?_
    refine then_normal ?_
    refine awp_seq ?_
    refine awp_seq ?_
    refine awp_region (rs := []) (cs := []) (live := [0, 1, 5]) (names := []) (st' := (⟨[(0, (Q253 a_a)), (1, (Q254 a_b)), (5, (.int .i64 (0 : Int)))], []⟩ : St)) (obs := []) hn mix (no_hand hΓ) (by kernel_rfl) trivial ?_
    refine then_normal ?_
    refine awp_block ?_
    refine awp_le (st' := (fun (i1 : Int) => (⟨[(0, (Q253 a_a)), (1, (Q254 a_b)), (5, (.int .i64 i1))], []⟩ : St)) (0 : Int)) (Le.refl _ _) ?_
    obtain ⟨x4, hx4, h⟩ := bind_some h
    refine awp_loop (fun (i1 : Int) => (⟨[(0, (Q253 a_a)), (1, (Q254 a_b)), (5, (.int .i64 i1))], []⟩ : St)) _ (fun (x_ : (Unit ⊕ Bool)) (e : Exit) (st : St) => match x_ with | (.inl _) => e = (.exit 0) ∧ Le Γ st (⟨[], []⟩ : St) | (.inr r_) => e = .ret ∧ retK Try.prog Try.f34.results.toList [] (.bool r_) [] e st) ?_ hx4 ?_
    · intro i1 y h
      unfold m_lockstepref02_Ints_L1 at h
      refine awp_seq ?_
      refine awp_seq ?_
      refine awp_region (rs := []) (cs := []) (live := [0, 1, 5, 14]) (names := []) (st' := (⟨[(0, (Q253 a_a)), (1, (Q254 a_b)), (5, (.int .i64 i1)), (14, (.bool (decide ((i1 : Int) < (a_a.length : Int)))))], []⟩ : St)) (obs := []) hn mix (no_hand hΓ) (by kernel_rfl) trivial ?_
      refine then_normal ?_
      refine awp_cond (decide ((i1 : Int) < (a_a.length : Int))) (by kernel_rfl) (fun hb => ?_) (fun hb => ?_)
      · replace h := cond_t hb h
        clear hb
        refine awp_skip ?_
        refine then_normal ?_
        refine awp_seq ?_
        refine awp_block ?_
        refine awp_seq ?_
        obtain ⟨hc2, h⟩ := chk_some h
        obtain ⟨hc3, h⟩ := chk_some h
        refine awp_region (rs := []) (cs := []) (live := [0, 1, 5, 25]) (names := []) (st' := (⟨[(0, (Q253 a_a)), (1, (Q254 a_b)), (5, (.int .i64 i1)), (25, (.bool (((a_a.getD (i1).toNat (0 : Int)) : Int) != (a_b.getD (i1).toNat (0 : Int)))))], []⟩ : St)) (obs := [(InB i1 a_a.length), (InB i1 a_b.length)]) hn mix (no_hand hΓ) (by kernel_rfl) ⟨hc2, hc3, trivial⟩ ?_
        refine then_normal ?_
        refine awp_cond (((a_a.getD (i1).toNat (0 : Int)) : Int) != (a_b.getD (i1).toNat (0 : Int))) (by kernel_rfl) (fun hb => ?_) (fun hb => ?_)
        · replace h := cond_t hb h
          clear hb
          refine awp_seq ?_
          refine awp_region (rs := []) (cs := []) (live := [4]) (names := []) (st' := (⟨[(4, (.bool false))], []⟩ : St)) (obs := []) hn mix (no_hand hΓ) (by kernel_rfl) trivial ?_
          refine then_normal ?_
          refine awp_ret ?_
          refine block_ret ?_
          refine then_ret ?_
          obtain rfl := Option.some.inj h
          exact ⟨(by intro hh; cases hh), rfl, ⟨.inl rfl, [], by kernel_rfl⟩⟩
        · replace h := cond_f hb h
          clear hb
          refine awp_skip ?_
          refine block_normal ?_
          refine then_normal ?_
          refine awp_region (rs := []) (cs := []) (live := [0, 1, 5]) (names := []) (st' := (⟨[(0, (Q253 a_a)), (1, (Q254 a_b)), (5, (.int .i64 (w64 (i1 + (1 : Int)))))], []⟩ : St)) (obs := []) hn mix (no_hand hΓ) (by kernel_rfl) trivial ?_
          obtain rfl := Option.some.inj h
          exact ⟨rfl, Le.refl _ _⟩
      · replace h := cond_f hb h
        clear hb
        refine awp_exit ?_
        refine then_exit ?_
        obtain rfl := Option.some.inj h
        exact ⟨(by intro hh; cases hh), rfl, le_restrict_eq [] [] (by kernel_rfl) (no_hand hΓ)⟩
    · clear hx4
      rcases x4 with _ | r6
      · rintro e st' ⟨rfl, hl5⟩
        refine block_here ?_
        refine then_normal ?_
        refine awp_le hl5 ?_
        refine awp_seq ?_
        refine awp_region (rs := []) (cs := []) (live := [4]) (names := []) (st' := (⟨[(4, (.bool true))], []⟩ : St)) (obs := []) hn mix (no_hand hΓ) (by kernel_rfl) trivial ?_
        refine then_normal ?_
        refine awp_ret ?_
        obtain rfl := Option.some.inj h
        exact ⟨.inl rfl, [], by kernel_rfl⟩
      · rintro e st' ⟨rfl, hk⟩
        refine block_ret ?_
        refine then_ret ?_
        obtain rfl := Option.some.inj h
        exact hk

noncomputable def Q259 (a_a : TOp) (a_b : TOp) := ((a_a.Dst : Int) == a_b.Dst)
noncomputable def Q261 (a_a : TOp) (a_b : TOp) := ((a_a.Imm : Int) == a_b.Imm)
noncomputable def Q260 (a_a : TOp) (a_b : TOp) := (((a_a.Kind : Int) == a_b.Kind) == true)
noncomputable def Q255 (a_a : TOp) (a_b : TOp) := (bif (bif ((a_a.Kind : Int) == a_b.Kind) then ((a_a.Bits : Int) == a_b.Bits) else false) then ((a_a.Lanes : Int) == a_b.Lanes) else false)
noncomputable def Q262 (a_a : TOp) (a_b : TOp) := (bif (Q255 a_a a_b) then (Q259 a_a a_b) else false)
noncomputable def Q263 (a_a : TOp) (a_b : TOp) := ((bif (Q262 a_a a_b) then (Q261 a_a a_b) else false) == true)
noncomputable def Q258 (a_a : TOp) (a_b : TOp) := ((bif ((a_a.Kind : Int) == a_b.Kind) then ((a_a.Bits : Int) == a_b.Bits) else false) == true)
noncomputable def Q256 (a_a : TOp) : List AV := [(.int .i64 a_a.Kind), (.int .i64 a_a.Bits), (.int .i64 a_a.Lanes), (.int .i64 a_a.Dst), (AV.list 1 eI64 (0 : Int) a_a.Args .none), (.int .u64 a_a.Imm)]
noncomputable def Q257 (a_b : TOp) : List AV := [(.int .i64 a_b.Kind), (.int .i64 a_b.Bits), (.int .i64 a_b.Lanes), (.int .i64 a_b.Dst), (AV.list 1 eI64 (0 : Int) a_b.Args .none), (.int .u64 a_b.Imm)]
noncomputable def m_lockstepref03_Same (a_a : TOp) (a_b : TOp) : Option Bool :=
  ((bif ((bif (bif (bif (bif ((a_a.Kind : Int) == a_b.Kind) then ((a_a.Bits : Int) == a_b.Bits) else false) then ((a_a.Lanes : Int) == a_b.Lanes) else false) then ((a_a.Dst : Int) == a_b.Dst) else false) then ((a_a.Imm : Int) == a_b.Imm) else false) == true) then m_lockstepref02_Ints a_a.Args a_b.Args else some false).bind fun x1 => (some (bif (bif (bif (bif (bif ((a_a.Kind : Int) == a_b.Kind) then ((a_a.Bits : Int) == a_b.Bits) else false) then ((a_a.Lanes : Int) == a_b.Lanes) else false) then ((a_a.Dst : Int) == a_b.Dst) else false) then ((a_a.Imm : Int) == a_b.Imm) else false) then x1 else false)))
theorem ok_lockstepref03_Same (a_a : TOp) (a_b : TOp) (r : Bool) (h : m_lockstepref03_Same a_a a_b = some r) : Spec Try.prog 35 [(.agg (eTOp a_a)), (.agg (eTOp a_b))] [] (.bool r) [] := by
  refine spec_of_awp (fn := Try.f35) Try.func35 rfl rfl (by kernel_rfl) (fun Γ hn hΓ => ?_)
  have hn : Γ.n = 45 := hn
  unfold m_lockstepref03_Same at h
  refine awp_seq ?_
  refine awp_region (rs := []) (cs := []) (live := [2, 3]) (names := [2, 3]) (st' := (⟨[(2, (.ptr 2 0)), (3, (.ptr 3 0))], [(2, .row (Q256 a_a)), (3, .row (Q257 a_b))]⟩ : St)) (obs := []) hn mix (no_hand hΓ) (by kernel_rfl) trivial ?_
  refine then_normal ?_
  refine awp_seq ?_
  obtain ⟨x1, hx1, h⟩ := bind_some h
  refine awp_region (rs := [⟨[], [], (.bool x1), []⟩]) (cs := []) (live := [4]) (names := []) (st' := (⟨[(4, (.bool (bif (bif (Q262 a_a a_b) then (Q261 a_a a_b) else false) then x1 else false)))], []⟩ : St)) (obs := [(0 < List.length (α := AV) (Q256 a_a)), (0 < List.length (α := AV) (Q257 a_b)), ((Q260 a_a a_b) = true → (Q260 a_a a_b) = true), ((Q260 a_a a_b) = true → (1 < List.length (α := AV) (Q256 a_a))), ((Q260 a_a a_b) = true → (Q260 a_a a_b) = true), ((Q260 a_a a_b) = true → (1 < List.length (α := AV) (Q257 a_b))), ((Q260 a_a a_b) = true → (Q260 a_a a_b) = true), ((Q260 a_a a_b) = true → (Q260 a_a a_b) = true), (((a_a.Kind : Int) == a_b.Kind) = true → (Q260 a_a a_b) = true), ((Q258 a_a a_b) = true → (Q258 a_a a_b) = true), ((Q258 a_a a_b) = true → (2 < List.length (α := AV) (Q256 a_a))), ((Q258 a_a a_b) = true → (Q258 a_a a_b) = true), ((Q258 a_a a_b) = true → (2 < List.length (α := AV) (Q257 a_b))), ((Q258 a_a a_b) = true → (Q258 a_a a_b) = true), ((Q258 a_a a_b) = true → (Q258 a_a a_b) = true), ((bif ((a_a.Kind : Int) == a_b.Kind) then ((a_a.Bits : Int) == a_b.Bits) else false) = true → (Q258 a_a a_b) = true), (((Q255 a_a a_b) == true) = true → ((Q255 a_a a_b) == true) = true), (((Q255 a_a a_b) == true) = true → (3 < List.length (α := AV) (Q256 a_a))), (((Q255 a_a a_b) == true) = true → ((Q255 a_a a_b) == true) = true), (((Q255 a_a a_b) == true) = true → (3 < List.length (α := AV) (Q257 a_b))), (((Q255 a_a a_b) == true) = true → ((Q255 a_a a_b) == true) = true), (((Q255 a_a a_b) == true) = true → ((Q255 a_a a_b) == true) = true), ((Q255 a_a a_b) = true → ((Q255 a_a a_b) == true) = true), (((Q262 a_a a_b) == true) = true → ((Q262 a_a a_b) == true) = true), (((Q262 a_a a_b) == true) = true → (5 < List.length (α := AV) (Q256 a_a))), (((Q262 a_a a_b) == true) = true → ((Q262 a_a a_b) == true) = true), (((Q262 a_a a_b) == true) = true → (5 < List.length (α := AV) (Q257 a_b))), (((Q262 a_a a_b) == true) = true → ((Q262 a_a a_b) == true) = true), (((Q262 a_a a_b) == true) = true → ((Q262 a_a a_b) == true) = true), ((Q262 a_a a_b) = true → ((Q262 a_a a_b) == true) = true), ((Q263 a_a a_b) = true → (Q263 a_a a_b) = true), ((Q263 a_a a_b) = true → (4 < List.length (α := AV) (Q256 a_a))), ((Q263 a_a a_b) = true → (Q263 a_a a_b) = true), ((Q263 a_a a_b) = true → (4 < List.length (α := AV) (Q257 a_b))), ((Q263 a_a a_b) = true → (Q263 a_a a_b) = true), ((Q263 a_a a_b) = true → (Q263 a_a a_b) = true), ((Q263 a_a a_b) = true → (Spec Try.prog 34 [(AV.list 1 eI64 (0 : Int) a_a.Args .none), (AV.list 1 eI64 (0 : Int) a_b.Args .none)] [] (.bool x1) [])), ((bif (Q262 a_a a_b) then (Q261 a_a a_b) else false) = true → (Q263 a_a a_b) = true)]) hn mix (no_hand hΓ) (by kernel_rfl) ⟨(nl rfl), (nl rfl), (fun hg => hg), (fun hg => (nl rfl)), (fun hg => hg), (fun hg => (nl rfl)), (fun hg => hg), (fun hg => hg), gT, (fun hg => hg), (fun hg => (nl rfl)), (fun hg => hg), (fun hg => (nl rfl)), (fun hg => hg), (fun hg => hg), gT, (fun hg => hg), (fun hg => (nl rfl)), (fun hg => hg), (fun hg => (nl rfl)), (fun hg => hg), (fun hg => hg), gT, (fun hg => hg), (fun hg => (nl rfl)), (fun hg => hg), (fun hg => (nl rfl)), (fun hg => hg), (fun hg => hg), gT, (fun hg => hg), (fun hg => (nl rfl)), (fun hg => hg), (fun hg => (nl rfl)), (fun hg => hg), (fun hg => hg), (fun hg => (ok_lockstepref02_Ints a_a.Args a_b.Args x1 (cond_t hg hx1))), gT, trivial⟩ ?_
  refine then_normal ?_
  refine awp_ret ?_
  obtain rfl := Option.some.inj h
  exact ⟨.inl rfl, [], by kernel_rfl⟩

noncomputable def m_lockstepref04_Same_L1 (a_a : TFunc) (a_p1 : TFunc) (i2 : Int) : Int → Option (LR Int (Unit ⊕ Bool)) :=
  fun (i6 : Int) => (bif (decide ((i6 : Int) < (((a_a.Blocks.getD (i2).toNat (default : TBlock)).Phis).length : Int))) then (chk (InB i6 ((a_a.Blocks.getD (i2).toNat (default : TBlock)).Phis).length) (chk (InB i6 ((a_p1.Blocks.getD (i2).toNat (default : TBlock)).Phis).length) ((bif ((bif (((((a_a.Blocks.getD (i2).toNat (default : TBlock)).Phis).getD (i6).toNat (default : TPhi)).Bits : Int) != (((a_p1.Blocks.getD (i2).toNat (default : TBlock)).Phis).getD (i6).toNat (default : TPhi)).Bits) then true else (((((a_a.Blocks.getD (i2).toNat (default : TBlock)).Phis).getD (i6).toNat (default : TPhi)).Dst : Int) != (((a_p1.Blocks.getD (i2).toNat (default : TBlock)).Phis).getD (i6).toNat (default : TPhi)).Dst)) == false) then m_lockstepref02_Ints ((((a_a.Blocks.getD (i2).toNat (default : TBlock)).Phis).getD (i6).toNat (default : TPhi)).From) ((((a_p1.Blocks.getD (i2).toNat (default : TBlock)).Phis).getD (i6).toNat (default : TPhi)).From) else some false).bind fun x9 => ((bif ((bif (bif (((((a_a.Blocks.getD (i2).toNat (default : TBlock)).Phis).getD (i6).toNat (default : TPhi)).Bits : Int) != (((a_p1.Blocks.getD (i2).toNat (default : TBlock)).Phis).getD (i6).toNat (default : TPhi)).Bits) then true else (((((a_a.Blocks.getD (i2).toNat (default : TBlock)).Phis).getD (i6).toNat (default : TPhi)).Dst : Int) != (((a_p1.Blocks.getD (i2).toNat (default : TBlock)).Phis).getD (i6).toNat (default : TPhi)).Dst)) then true else (!x9)) == false) then m_lockstepref02_Ints ((((a_a.Blocks.getD (i2).toNat (default : TBlock)).Phis).getD (i6).toNat (default : TPhi)).Args) ((((a_p1.Blocks.getD (i2).toNat (default : TBlock)).Phis).getD (i6).toNat (default : TPhi)).Args) else some false).bind fun x10 => (bif (bif (bif (bif (((((a_a.Blocks.getD (i2).toNat (default : TBlock)).Phis).getD (i6).toNat (default : TPhi)).Bits : Int) != (((a_p1.Blocks.getD (i2).toNat (default : TBlock)).Phis).getD (i6).toNat (default : TPhi)).Bits) then true else (((((a_a.Blocks.getD (i2).toNat (default : TBlock)).Phis).getD (i6).toNat (default : TPhi)).Dst : Int) != (((a_p1.Blocks.getD (i2).toNat (default : TBlock)).Phis).getD (i6).toNat (default : TPhi)).Dst)) then true else (!x9)) then true else (!x10)) then (some (.done (.inr false))) else (some (.next (w64 (i6 + (1 : Int)))))))))) else (some (.done (.inl ()))))
noncomputable def m_lockstepref04_Same_L2 (a_a : TFunc) (a_p1 : TFunc) (i2 : Int) : Int → Option (LR Int (Unit ⊕ Bool)) :=
  fun (i13 : Int) => (bif (decide ((i13 : Int) < (((a_a.Blocks.getD (i2).toNat (default : TBlock)).Ops).length : Int))) then (chk (InB i13 ((a_a.Blocks.getD (i2).toNat (default : TBlock)).Ops).length) (chk (InB i13 ((a_p1.Blocks.getD (i2).toNat (default : TBlock)).Ops).length) ((m_lockstepref03_Same (((a_a.Blocks.getD (i2).toNat (default : TBlock)).Ops).getD (i13).toNat (default : TOp)) (((a_p1.Blocks.getD (i2).toNat (default : TBlock)).Ops).getD (i13).toNat (default : TOp))).bind fun x16 => (bif (!x16) then (some (.done (.inr false))) else (some (.next (w64 (i13 + (1 : Int))))))))) else (some (.done (.inl ()))))
noncomputable def m_lockstepref04_Same_L3 (a_a : TFunc) (a_p1 : TFunc) : Int → Option (LR Int (Unit ⊕ Bool)) :=
  fun (i2 : Int) => (bif (decide ((i2 : Int) < (a_a.Blocks.length : Int))) then (chk (InB i2 a_a.Blocks.length) (chk (InB i2 a_p1.Blocks.length) ((bif ((bif (bif (bif (((((a_a.Blocks.getD (i2).toNat (default : TBlock)).Phis).length : Int) : Int) != (((a_p1.Blocks.getD (i2).toNat (default : TBlock)).Phis).length : Int)) then true else (((((a_a.Blocks.getD (i2).toNat (default : TBlock)).Ops).length : Int) : Int) != (((a_p1.Blocks.getD (i2).toNat (default : TBlock)).Ops).length : Int))) then true else (((a_a.Blocks.getD (i2).toNat (default : TBlock)).End.Kind : Int) != (a_p1.Blocks.getD (i2).toNat (default : TBlock)).End.Kind)) then true else (((a_a.Blocks.getD (i2).toNat (default : TBlock)).End.Arg : Int) != (a_p1.Blocks.getD (i2).toNat (default : TBlock)).End.Arg)) == false) then m_lockstepref02_Ints ((a_a.Blocks.getD (i2).toNat (default : TBlock)).End.To) ((a_p1.Blocks.getD (i2).toNat (default : TBlock)).End.To) else some false).bind fun x5 => (bif (bif (bif (bif (bif (((((a_a.Blocks.getD (i2).toNat (default : TBlock)).Phis).length : Int) : Int) != (((a_p1.Blocks.getD (i2).toNat (default : TBlock)).Phis).length : Int)) then true else (((((a_a.Blocks.getD (i2).toNat (default : TBlock)).Ops).length : Int) : Int) != (((a_p1.Blocks.getD (i2).toNat (default : TBlock)).Ops).length : Int))) then true else (((a_a.Blocks.getD (i2).toNat (default : TBlock)).End.Kind : Int) != (a_p1.Blocks.getD (i2).toNat (default : TBlock)).End.Kind)) then true else (((a_a.Blocks.getD (i2).toNat (default : TBlock)).End.Arg : Int) != (a_p1.Blocks.getD (i2).toNat (default : TBlock)).End.Arg)) then true else (!x5)) then (some (.done (.inr false))) else ((loopO (S := Int) (X := (Unit ⊕ Bool)) (m_lockstepref04_Same_L1 a_a a_p1 i2) (0 : Int)).bind (fun x11 => (match x11 with | (.inl _) => ((loopO (S := Int) (X := (Unit ⊕ Bool)) (m_lockstepref04_Same_L2 a_a a_p1 i2) (0 : Int)).bind (fun x17 => (match x17 with | (.inl _) => (some (.next (w64 (i2 + (1 : Int))))) | (.inr r19) => (some (.done (.inr r19)))))) | (.inr r20) => (some (.done (.inr r20)))))))))) else (some (.done (.inl ()))))
noncomputable def Q293 : AV := (.int .i64 (0 : Int))
noncomputable def Q282 (a_a : TFunc) (i2 : Int) := ((a_a.Blocks.getD (i2).toNat (default : TBlock)).Phis)
noncomputable def Q288 (a_p1 : TFunc) (i2 : Int) := (a_p1.Blocks.getD (i2).toNat (default : TBlock))
noncomputable def Q286 (a_a : TFunc) (i2 : Int) := ((a_a.Blocks.getD (i2).toNat (default : TBlock)).Ops)
noncomputable def Q264 (a_a : TFunc) (i2 : Int) (a_p1 : TFunc) := (bif (bif ((((Q282 a_a i2).length : Int) : Int) != (((Q288 a_p1 i2).Phis).length : Int)) then true else ((((Q286 a_a i2).length : Int) : Int) != (((Q288 a_p1 i2).Ops).length : Int))) then true else (((a_a.Blocks.getD (i2).toNat (default : TBlock)).End.Kind : Int) != (Q288 a_p1 i2).End.Kind))
noncomputable def Q285 (a_a : TFunc) (i2 : Int) (a_p1 : TFunc) := ((Q264 a_a i2 a_p1) == false)
noncomputable def Q283 (a_p1 : TFunc) (i2 : Int) (i6 : Int) := (((Q288 a_p1 i2).Phis).getD (i6).toNat (default : TPhi))
noncomputable def Q266 (a_a : TFunc) (i2 : Int) (i6 : Int) (a_p1 : TFunc) := (bif ((((Q282 a_a i2).getD (i6).toNat (default : TPhi)).Bits : Int) != (Q283 a_p1 i2 i6).Bits) then true else ((((Q282 a_a i2).getD (i6).toNat (default : TPhi)).Dst : Int) != (Q283 a_p1 i2 i6).Dst))
noncomputable def Q284 (a_a : TFunc) (i2 : Int) (i6 : Int) (a_p1 : TFunc) := ((Q266 a_a i2 i6 a_p1) == false)
noncomputable def Q287 : AV := (.slice 0 0 (fun _ => []) .exact)
noncomputable def Q275 (a_a : TFunc) (a_p1 : TFunc) := (((a_a.Ret : Int) != a_p1.Ret) == false)
noncomputable def Q289 (a_a : TFunc) (i2 : Int) (i6 : Int) := ((Q282 a_a i2).getD (i6).toNat (default : TPhi))
noncomputable def Q281 (a_a : TFunc) (i2 : Int) (i6 : Int) (a_p1 : TFunc) (x9 : Bool) := ((bif (Q266 a_a i2 i6 a_p1) then true else (!x9)) == false)
noncomputable def Q274 (a_a : TFunc) (a_p1 : TFunc) (x1 : Bool) := ((bif ((a_a.Ret : Int) != a_p1.Ret) then true else (!x1)) == false)
noncomputable def Q268 (a_a : TFunc) (i2 : Int) (a_p1 : TFunc) := (((a_a.Blocks.getD (i2).toNat (default : TBlock)).End.Arg : Int) != (Q288 a_p1 i2).End.Arg)
noncomputable def Q278 (a_a : TFunc) (i2 : Int) (a_p1 : TFunc) := ((bif (Q264 a_a i2 a_p1) then true else (Q268 a_a i2 a_p1)) == false)
noncomputable def Q279 (a_a : TFunc) : List AV := [(AV.list 1 eI64 (0 : Int) a_a.Params .none), (.int .i64 a_a.Ret), (AV.list 5 eTBlock (default : TBlock) a_a.Blocks .none)]
noncomputable def Q280 (a_p1 : TFunc) : List AV := [(AV.list 1 eI64 (0 : Int) a_p1.Params .none), (.int .i64 a_p1.Ret), (AV.list 5 eTBlock (default : TBlock) a_p1.Blocks .none)]
noncomputable def Q273 (a_a : TFunc) (a_p1 : TFunc) : List (Nat × Own) := [(2, .row (Q279 a_a)), (3, .row (Q280 a_p1))]
noncomputable def Q292 (i2 : Int) (a_a : TFunc) (a_p1 : TFunc) := (⟨[(2, (.ptr 2 0)), (3, (.ptr 3 0)), (5, (.int .i64 i2))], (Q273 a_a a_p1)⟩ : St)
noncomputable def Q276 (a_a : TFunc) (i2 : Int) : List AV := [(AV.list 4 eTPhi (default : TPhi) (a_a.Blocks.getD (i2).toNat (default : TBlock)).Phis .none), (AV.list 6 eTOp (default : TOp) (a_a.Blocks.getD (i2).toNat (default : TBlock)).Ops .none), (.int .i64 (a_a.Blocks.getD (i2).toNat (default : TBlock)).End.Kind), (.int .i64 (a_a.Blocks.getD (i2).toNat (default : TBlock)).End.Arg), (AV.list 1 eI64 (0 : Int) (a_a.Blocks.getD (i2).toNat (default : TBlock)).End.To .none)]
noncomputable def Q277 (a_p1 : TFunc) (i2 : Int) : List AV := [(AV.list 4 eTPhi (default : TPhi) (Q288 a_p1 i2).Phis .none), (AV.list 6 eTOp (default : TOp) (Q288 a_p1 i2).Ops .none), (.int .i64 (Q288 a_p1 i2).End.Kind), (.int .i64 (Q288 a_p1 i2).End.Arg), (AV.list 1 eI64 (0 : Int) (Q288 a_p1 i2).End.To .none)]
noncomputable def Q265 (a_a : TFunc) (a_p1 : TFunc) (i2 : Int) : List (Nat × Own) := [(2, .row (Q279 a_a)), (3, .row (Q280 a_p1)), (6, .row (Q276 a_a i2)), (7, .row (Q277 a_p1 i2))]
noncomputable def Q291 (i2 : Int) (a_a : TFunc) (a_p1 : TFunc) := (fun (i6 : Int) => (⟨[(2, (.ptr 2 0)), (3, (.ptr 3 0)), (5, (.int .i64 i2)), (6, (.ptr 6 0)), (7, (.ptr 7 0)), (8, (.int .i64 i6))], (Q265 a_a a_p1 i2)⟩ : St))
noncomputable def Q290 (i2 : Int) (a_a : TFunc) (a_p1 : TFunc) := (fun (i13 : Int) => (⟨[(2, (.ptr 2 0)), (3, (.ptr 3 0)), (5, (.int .i64 i2)), (6, (.ptr 6 0)), (7, (.ptr 7 0)), (11, (.int .i64 i13))], (Q265 a_a a_p1 i2)⟩ : St))
noncomputable def Q270 (a_a : TFunc) (i2 : Int) (a_p1 : TFunc) := (((((Q282 a_a i2).length : Int) : Int) != (((Q288 a_p1 i2).Phis).length : Int)) == false)
noncomputable def Q271 (a_a : TFunc) (i2 : Int) (i6 : Int) (a_p1 : TFunc) := (((((Q282 a_a i2).getD (i6).toNat (default : TPhi)).Bits : Int) != (Q283 a_p1 i2 i6).Bits) == false)
noncomputable def Q267 (a_a : TFunc) (i2 : Int) (a_p1 : TFunc) := ((bif ((((Q282 a_a i2).length : Int) : Int) != (((Q288 a_p1 i2).Phis).length : Int)) then true else ((((Q286 a_a i2).length : Int) : Int) != (((Q288 a_p1 i2).Ops).length : Int))) == false)
noncomputable def Q269 (a_a : TFunc) (i2 : Int) (i6 : Int) : List AV := [(.int .i64 ((Q282 a_a i2).getD (i6).toNat (default : TPhi)).Bits), (.int .i64 ((Q282 a_a i2).getD (i6).toNat (default : TPhi)).Dst), (AV.list 1 eI64 (0 : Int) ((Q282 a_a i2).getD (i6).toNat (default : TPhi)).From .none), (AV.list 1 eI64 (0 : Int) ((Q282 a_a i2).getD (i6).toNat (default : TPhi)).Args .none)]
noncomputable def Q272 (a_p1 : TFunc) (i2 : Int) (i6 : Int) : List AV := [(.int .i64 (Q283 a_p1 i2 i6).Bits), (.int .i64 (Q283 a_p1 i2 i6).Dst), (AV.list 1 eI64 (0 : Int) (Q283 a_p1 i2 i6).From .none), (AV.list 1 eI64 (0 : Int) (Q283 a_p1 i2 i6).Args .none)]
noncomputable def m_lockstepref04_Same (a_a : TFunc) (a_p1 : TFunc) : Option Bool :=
  ((bif (((a_a.Ret : Int) != a_p1.Ret) == false) then m_lockstepref02_Ints a_a.Params a_p1.Params else some false).bind fun x1 => (bif (bif (bif ((a_a.Ret : Int) != a_p1.Ret) then true else (!x1)) then true else (((a_a.Blocks.length : Int) : Int) != (a_p1.Blocks.length : Int))) then (some false) else ((loopO (S := Int) (X := (Unit ⊕ Bool)) (m_lockstepref04_Same_L3 a_a a_p1) (0 : Int)).bind (fun x21 => (match x21 with | (.inl _) => (some true) | (.inr r23) => (some r23))))))
theorem ok_lockstepref04_Same (a_a : TFunc) (a_p1 : TFunc) (r : Bool) (h : m_lockstepref04_Same a_a a_p1 = some r) : Spec Try.prog 18 [(.agg (eTFunc a_a)), (.agg (eTFunc a_p1))] [] (.bool r) [] := by
  refine spec_of_awp (fn := Try.f18) Try.func18 rfl rfl (by kernel_rfl) (fun Γ hn hΓ => ?_)
  have hn : Γ.n = 159 := hn
  unfold m_lockstepref04_Same at h
  refine awp_seq ?_
  refine awp_region (rs := []) (cs := []) (live := [2, 3]) (names := [2, 3]) (st' := (⟨[(2, (.ptr 2 0)), (3, (.ptr 3 0))], (Q273 a_a a_p1)⟩ : St)) (obs := []) hn mix (no_hand hΓ) (by kernel_rfl) trivial ?_
  refine then_normal ?_
  refine awp_seq ?_
  refine awp_seq ?_
  obtain ⟨x1, hx1, h⟩ := bind_some h
  refine awp_region (rs := [⟨[], [], (.bool x1), []⟩]) (cs := []) (live := [2, 3, 33]) (names := [2, 3]) (st' := (⟨[(2, (.ptr 2 0)), (3, (.ptr 3 0)), (33, (.bool (bif (bif ((a_a.Ret : Int) != a_p1.Ret) then true else (!x1)) then true else (((a_a.Blocks.length : Int) : Int) != (a_p1.Blocks.length : Int)))))], (Q273 a_a a_p1)⟩ : St)) (obs := [(1 < List.length (α := AV) (Q279 a_a)), (1 < List.length (α := AV) (Q280 a_p1)), ((Q275 a_a a_p1) = true → (Q275 a_a a_p1) = true), ((Q275 a_a a_p1) = true → (0 < List.length (α := AV) (Q279 a_a))), ((Q275 a_a a_p1) = true → (Q275 a_a a_p1) = true), ((Q275 a_a a_p1) = true → (0 < List.length (α := AV) (Q280 a_p1))), ((Q275 a_a a_p1) = true → (Q275 a_a a_p1) = true), ((Q275 a_a a_p1) = true → (Q275 a_a a_p1) = true), ((Q275 a_a a_p1) = true → (Spec Try.prog 34 [(AV.list 1 eI64 (0 : Int) a_a.Params .none), (AV.list 1 eI64 (0 : Int) a_p1.Params .none)] [] (.bool x1) [])), ((Q275 a_a a_p1) = true → (Q275 a_a a_p1) = true), (((a_a.Ret : Int) != a_p1.Ret) = false → (Q275 a_a a_p1) = true), ((Q274 a_a a_p1 x1) = true → (Q274 a_a a_p1 x1) = true), ((Q274 a_a a_p1 x1) = true → (2 < List.length (α := AV) (Q279 a_a))), ((Q274 a_a a_p1 x1) = true → (Q274 a_a a_p1 x1) = true), ((Q274 a_a a_p1 x1) = true → (Q274 a_a a_p1 x1) = true), ((Q274 a_a a_p1 x1) = true → (2 < List.length (α := AV) (Q280 a_p1))), ((Q274 a_a a_p1 x1) = true → (Q274 a_a a_p1 x1) = true), ((Q274 a_a a_p1 x1) = true → (Q274 a_a a_p1 x1) = true), ((Q274 a_a a_p1 x1) = true → (Q274 a_a a_p1 x1) = true), ((bif ((a_a.Ret : Int) != a_p1.Ret) then true else (!x1)) = false → (Q274 a_a a_p1 x1) = true)]) hn mix (no_hand hΓ) (by kernel_rfl) ⟨(nl rfl), (nl rfl), (fun hg => hg), (fun hg => (nl rfl)), (fun hg => hg), (fun hg => (nl rfl)), (fun hg => hg), (fun hg => hg), (fun hg => (ok_lockstepref02_Ints a_a.Params a_p1.Params x1 (cond_t hg hx1))), (fun hg => hg), gF, (fun hg => hg), (fun hg => (nl rfl)), (fun hg => hg), (fun hg => hg), (fun hg => (nl rfl)), (fun hg => hg), (fun hg => hg), (fun hg => hg), gF, trivial⟩ ?_
  refine then_normal ?_
  refine awp_cond (bif (bif ((a_a.Ret : Int) != a_p1.Ret) then true else (!x1)) then true else (((a_a.Blocks.length : Int) : Int) != (a_p1.Blocks.length : Int))) (by kernel_rfl) (fun hb => ?_) (fun hb => ?_)
  · replace h := cond_t hb h
    clear hb
    refine awp_seq ?_
    refine awp_region (rs := []) (cs := []) (live := [4]) (names := []) (st' := (⟨[(4, (.bool false))], []⟩ : St)) (obs := []) hn mix (no_hand hΓ) (by kernel_rfl) trivial ?_
    refine then_normal ?_
    refine awp_ret ?_
    refine then_ret ?_
    obtain rfl := Option.some.inj h
    exact ⟨.inl rfl, [], by kernel_rfl⟩
  · replace h := cond_f hb h
    clear hb
    refine awp_skip ?_
    refine then_normal ?_
    refine awp_seq ?_
    refine awp_seq ?_
    refine awp_region (rs := []) (cs := []) (live := [2, 3, 5]) (names := [2, 3]) (st' := (⟨[(2, (.ptr 2 0)), (3, (.ptr 3 0)), (5, Q293)], (Q273 a_a a_p1)⟩ : St)) (obs := []) hn mix (no_hand hΓ) (by kernel_rfl) trivial ?_
    refine then_normal ?_
    refine awp_block ?_
    refine awp_le (st' := (fun (i2 : Int) => (Q292 i2 a_a a_p1)) (0 : Int)) (Le.refl _ _) ?_
    obtain ⟨x21, hx21, h⟩ := bind_some h
    refine awp_loop (fun (i2 : Int) => (Q292 i2 a_a a_p1)) _ (fun (x_ : (Unit ⊕ Bool)) (e : Exit) (st : St) => match x_ with | (.inl _) => e = (.exit 0) ∧ Le Γ st (⟨[], []⟩ : St) | (.inr r_) => e = .ret ∧ retK Try.prog Try.f18.results.toList [] (.bool r_) [] e st) ?_ hx21 ?_
    · intro i2 y h
      unfold m_lockstepref04_Same_L3 at h
      refine awp_seq ?_
      refine awp_seq ?_
      refine awp_region (rs := []) (cs := []) (live := [2, 3, 5, 38]) (names := [2, 3]) (st' := (⟨[(2, (.ptr 2 0)), (3, (.ptr 3 0)), (5, (.int .i64 i2)), (38, (.bool (decide ((i2 : Int) < (a_a.Blocks.length : Int)))))], (Q273 a_a a_p1)⟩ : St)) (obs := [(2 < List.length (α := AV) (Q279 a_a))]) hn mix (no_hand hΓ) (by kernel_rfl) ⟨(nl rfl), trivial⟩ ?_
      refine then_normal ?_
      refine awp_cond (decide ((i2 : Int) < (a_a.Blocks.length : Int))) (by kernel_rfl) (fun hb => ?_) (fun hb => ?_)
      · replace h := cond_t hb h
        clear hb
        refine awp_skip ?_
        refine then_normal ?_
        refine awp_seq ?_
        refine awp_block ?_
        refine awp_seq ?_
        obtain ⟨hc3, h⟩ := chk_some h
        refine awp_region (rs := []) (cs := []) (live := [2, 3, 5, 6]) (names := [2, 3, 6]) (st' := (⟨[(2, (.ptr 2 0)), (3, (.ptr 3 0)), (5, (.int .i64 i2)), (6, (.ptr 6 0))], [(2, .row (Q279 a_a)), (3, .row (Q280 a_p1)), (6, .row (Q276 a_a i2))]⟩ : St)) (obs := [(2 < List.length (α := AV) (Q279 a_a)), (InB i2 a_a.Blocks.length), (0 + List.length (α := AV) (eTBlock (a_a.Blocks.getD (i2).toNat (default : TBlock))) ≤ List.length (α := AV) [Q287, Q287, Q293, Q293, Q287])]) hn mix (no_hand hΓ) (by kernel_rfl) ⟨(nl rfl), hc3, (nl rfl), trivial⟩ ?_
        refine then_normal ?_
        refine awp_seq ?_
        obtain ⟨hc4, h⟩ := chk_some h
        refine awp_region (rs := []) (cs := []) (live := [2, 3, 5, 6, 7]) (names := [2, 3, 6, 7]) (st' := (⟨[(2, (.ptr 2 0)), (3, (.ptr 3 0)), (5, (.int .i64 i2)), (6, (.ptr 6 0)), (7, (.ptr 7 0))], (Q265 a_a a_p1 i2)⟩ : St)) (obs := [(2 < List.length (α := AV) (Q280 a_p1)), (InB i2 a_p1.Blocks.length), (0 + List.length (α := AV) (eTBlock (Q288 a_p1 i2)) ≤ List.length (α := AV) [Q287, Q287, Q293, Q293, Q287])]) hn mix (no_hand hΓ) (by kernel_rfl) ⟨(nl rfl), hc4, (nl rfl), trivial⟩ ?_
        refine then_normal ?_
        refine awp_seq ?_
        refine awp_seq ?_
        obtain ⟨x5, hx5, h⟩ := bind_some h
        refine awp_region (rs := [⟨[], [], (.bool x5), []⟩]) (cs := []) (live := [2, 3, 5, 6, 7, 94]) (names := [2, 3, 6, 7]) (st' := (⟨[(2, (.ptr 2 0)), (3, (.ptr 3 0)), (5, (.int .i64 i2)), (6, (.ptr 6 0)), (7, (.ptr 7 0)), (94, (.bool (bif (bif (Q264 a_a i2 a_p1) then true else (Q268 a_a i2 a_p1)) then true else (!x5))))], (Q265 a_a a_p1 i2)⟩ : St)) (obs := [(0 < List.length (α := AV) (Q276 a_a i2)), (0 < List.length (α := AV) (Q277 a_p1 i2)), ((Q270 a_a i2 a_p1) = true → (Q270 a_a i2 a_p1) = true), ((Q270 a_a i2 a_p1) = true → (1 < List.length (α := AV) (Q276 a_a i2))), ((Q270 a_a i2 a_p1) = true → (Q270 a_a i2 a_p1) = true), ((Q270 a_a i2 a_p1) = true → (Q270 a_a i2 a_p1) = true), ((Q270 a_a i2 a_p1) = true → (1 < List.length (α := AV) (Q277 a_p1 i2))), ((Q270 a_a i2 a_p1) = true → (Q270 a_a i2 a_p1) = true), ((Q270 a_a i2 a_p1) = true → (Q270 a_a i2 a_p1) = true), ((Q270 a_a i2 a_p1) = true → (Q270 a_a i2 a_p1) = true), (((((Q282 a_a i2).length : Int) : Int) != (((Q288 a_p1 i2).Phis).length : Int)) = false → (Q270 a_a i2 a_p1) = true), ((Q267 a_a i2 a_p1) = true → (Q267 a_a i2 a_p1) = true), ((Q267 a_a i2 a_p1) = true → (Q267 a_a i2 a_p1) = true), ((Q267 a_a i2 a_p1) = true → (2 < List.length (α := AV) (Q276 a_a i2))), ((Q267 a_a i2 a_p1) = true → (Q267 a_a i2 a_p1) = true), ((Q267 a_a i2 a_p1) = true → (Q267 a_a i2 a_p1) = true), ((Q267 a_a i2 a_p1) = true → (2 < List.length (α := AV) (Q277 a_p1 i2))), ((Q267 a_a i2 a_p1) = true → (Q267 a_a i2 a_p1) = true), ((Q267 a_a i2 a_p1) = true → (Q267 a_a i2 a_p1) = true), ((bif ((((Q282 a_a i2).length : Int) : Int) != (((Q288 a_p1 i2).Phis).length : Int)) then true else ((((Q286 a_a i2).length : Int) : Int) != (((Q288 a_p1 i2).Ops).length : Int))) = false → (Q267 a_a i2 a_p1) = true), ((Q285 a_a i2 a_p1) = true → (Q285 a_a i2 a_p1) = true), ((Q285 a_a i2 a_p1) = true → (Q285 a_a i2 a_p1) = true), ((Q285 a_a i2 a_p1) = true → (3 < List.length (α := AV) (Q276 a_a i2))), ((Q285 a_a i2 a_p1) = true → (Q285 a_a i2 a_p1) = true), ((Q285 a_a i2 a_p1) = true → (Q285 a_a i2 a_p1) = true), ((Q285 a_a i2 a_p1) = true → (3 < List.length (α := AV) (Q277 a_p1 i2))), ((Q285 a_a i2 a_p1) = true → (Q285 a_a i2 a_p1) = true), ((Q285 a_a i2 a_p1) = true → (Q285 a_a i2 a_p1) = true), ((Q264 a_a i2 a_p1) = false → (Q285 a_a i2 a_p1) = true), ((Q278 a_a i2 a_p1) = true → (Q278 a_a i2 a_p1) = true), ((Q278 a_a i2 a_p1) = true → (Q278 a_a i2 a_p1) = true), ((Q278 a_a i2 a_p1) = true → (4 < List.length (α := AV) (Q276 a_a i2))), ((Q278 a_a i2 a_p1) = true → (Q278 a_a i2 a_p1) = true), ((Q278 a_a i2 a_p1) = true → (Q278 a_a i2 a_p1) = true), ((Q278 a_a i2 a_p1) = true → (4 < List.length (α := AV) (Q277 a_p1 i2))), ((Q278 a_a i2 a_p1) = true → (Q278 a_a i2 a_p1) = true), ((Q278 a_a i2 a_p1) = true → (Q278 a_a i2 a_p1) = true), ((Q278 a_a i2 a_p1) = true → (Spec Try.prog 34 [(AV.list 1 eI64 (0 : Int) (a_a.Blocks.getD (i2).toNat (default : TBlock)).End.To .none), (AV.list 1 eI64 (0 : Int) (Q288 a_p1 i2).End.To .none)] [] (.bool x5) [])), ((Q278 a_a i2 a_p1) = true → (Q278 a_a i2 a_p1) = true), ((bif (Q264 a_a i2 a_p1) then true else (Q268 a_a i2 a_p1)) = false → (Q278 a_a i2 a_p1) = true)]) hn mix (no_hand hΓ) (by kernel_rfl) ⟨(nl rfl), (nl rfl), (fun hg => hg), (fun hg => (nl rfl)), (fun hg => hg), (fun hg => hg), (fun hg => (nl rfl)), (fun hg => hg), (fun hg => hg), (fun hg => hg), gF, (fun hg => hg), (fun hg => hg), (fun hg => (nl rfl)), (fun hg => hg), (fun hg => hg), (fun hg => (nl rfl)), (fun hg => hg), (fun hg => hg), gF, (fun hg => hg), (fun hg => hg), (fun hg => (nl rfl)), (fun hg => hg), (fun hg => hg), (fun hg => (nl rfl)), (fun hg => hg), (fun hg => hg), gF, (fun hg => hg), (fun hg => hg), (fun hg => (nl rfl)), (fun hg => hg), (fun hg => hg), (fun hg => (nl rfl)), (fun hg => hg), (fun hg => hg), (fun hg => (ok_lockstepref02_Ints ((a_a.Blocks.getD (i2).toNat (default : TBlock)).End.To) ((Q288 a_p1 i2).End.To) x5 (cond_t hg hx5))), (fun hg => hg), gF, trivial⟩ ?_
        refine then_normal ?_
        refine awp_cond (bif (bif (Q264 a_a i2 a_p1) then true else (Q268 a_a i2 a_p1)) then true else (!x5)) (by kernel_rfl) (fun hb => ?_) (fun hb => ?_)
        · replace h := cond_t hb h
          clear hb
          refine awp_seq ?_
          refine awp_region (rs := []) (cs := []) (live := [4]) (names := []) (st' := (⟨[(4, (.bool false))], []⟩ : St)) (obs := []) hn mix (no_hand hΓ) (by kernel_rfl) trivial ?_
          refine then_normal ?_
          refine awp_ret ?_
          refine then_ret ?_
          refine block_ret ?_
          refine then_ret ?_
          obtain rfl := Option.some.inj h
          exact ⟨(by intro hh; cases hh), rfl, ⟨.inl rfl, [], by kernel_rfl⟩⟩
        · replace h := cond_f hb h
          clear hb
          refine awp_skip ?_
          refine then_normal ?_
          refine awp_seq ?_
          refine awp_seq ?_
          refine awp_region (rs := []) (cs := []) (live := [2, 3, 5, 6, 7, 8]) (names := [2, 3, 6, 7]) (st' := (⟨[(2, (.ptr 2 0)), (3, (.ptr 3 0)), (5, (.int .i64 i2)), (6, (.ptr 6 0)), (7, (.ptr 7 0)), (8, Q293)], (Q265 a_a a_p1 i2)⟩ : St)) (obs := []) hn mix (no_hand hΓ) (by kernel_rfl) trivial ?_
          refine then_normal ?_
          refine awp_block ?_
          refine awp_le (st' := (Q291 i2 a_a a_p1) (0 : Int)) (Le.refl _ _) ?_
          obtain ⟨x11, hx11, h⟩ := bind_some h
          refine awp_loop (Q291 i2 a_a a_p1) _ (fun (x_ : (Unit ⊕ Bool)) (e : Exit) (st : St) => match x_ with | (.inl _) => e = (.exit 2) ∧ Le Γ st (⟨[(2, (.ptr 2 0)), (3, (.ptr 3 0)), (5, (.int .i64 i2)), (6, (.ptr 6 0)), (7, (.ptr 7 0))], (Q265 a_a a_p1 i2)⟩ : St) | (.inr r_) => e = .ret ∧ retK Try.prog Try.f18.results.toList [] (.bool r_) [] e st) ?_ hx11 ?_
          · intro i6 y h
            unfold m_lockstepref04_Same_L1 at h
            refine awp_seq ?_
            refine awp_seq ?_
            refine awp_region (rs := []) (cs := []) (live := [2, 3, 5, 6, 7, 8, 99]) (names := [2, 3, 6, 7]) (st' := (⟨[(2, (.ptr 2 0)), (3, (.ptr 3 0)), (5, (.int .i64 i2)), (6, (.ptr 6 0)), (7, (.ptr 7 0)), (8, (.int .i64 i6)), (99, (.bool (decide ((i6 : Int) < ((Q282 a_a i2).length : Int)))))], (Q265 a_a a_p1 i2)⟩ : St)) (obs := [(0 < List.length (α := AV) (Q276 a_a i2))]) hn mix (no_hand hΓ) (by kernel_rfl) ⟨(nl rfl), trivial⟩ ?_
            refine then_normal ?_
            refine awp_cond (decide ((i6 : Int) < ((Q282 a_a i2).length : Int))) (by kernel_rfl) (fun hb => ?_) (fun hb => ?_)
            · replace h := cond_t hb h
              clear hb
              refine awp_skip ?_
              refine then_normal ?_
              refine awp_seq ?_
              refine awp_block ?_
              refine awp_seq ?_
              obtain ⟨hc7, h⟩ := chk_some h
              refine awp_region (rs := []) (cs := []) (live := [2, 3, 5, 6, 7, 8, 9]) (names := [2, 3, 6, 7, 9]) (st' := (⟨[(2, (.ptr 2 0)), (3, (.ptr 3 0)), (5, (.int .i64 i2)), (6, (.ptr 6 0)), (7, (.ptr 7 0)), (8, (.int .i64 i6)), (9, (.ptr 9 0))], [(2, .row (Q279 a_a)), (3, .row (Q280 a_p1)), (6, .row (Q276 a_a i2)), (7, .row (Q277 a_p1 i2)), (9, .row (Q269 a_a i2 i6))]⟩ : St)) (obs := [(0 < List.length (α := AV) (Q276 a_a i2)), (InB i6 (Q282 a_a i2).length), (0 + List.length (α := AV) (eTPhi (Q289 a_a i2 i6)) ≤ List.length (α := AV) [Q293, Q293, Q287, Q287])]) hn mix (no_hand hΓ) (by kernel_rfl) ⟨(nl rfl), hc7, (nl rfl), trivial⟩ ?_
              refine then_normal ?_
              refine awp_seq ?_
              obtain ⟨hc8, h⟩ := chk_some h
              refine awp_region (rs := []) (cs := []) (live := [2, 3, 5, 6, 7, 8, 9, 10]) (names := [2, 3, 6, 7, 9, 10]) (st' := (⟨[(2, (.ptr 2 0)), (3, (.ptr 3 0)), (5, (.int .i64 i2)), (6, (.ptr 6 0)), (7, (.ptr 7 0)), (8, (.int .i64 i6)), (9, (.ptr 9 0)), (10, (.ptr 10 0))], [(2, .row (Q279 a_a)), (3, .row (Q280 a_p1)), (6, .row (Q276 a_a i2)), (7, .row (Q277 a_p1 i2)), (9, .row (Q269 a_a i2 i6)), (10, .row (Q272 a_p1 i2 i6))]⟩ : St)) (obs := [(0 < List.length (α := AV) (Q277 a_p1 i2)), (InB i6 ((Q288 a_p1 i2).Phis).length), (0 + List.length (α := AV) (eTPhi (Q283 a_p1 i2 i6)) ≤ List.length (α := AV) [Q293, Q293, Q287, Q287])]) hn mix (no_hand hΓ) (by kernel_rfl) ⟨(nl rfl), hc8, (nl rfl), trivial⟩ ?_
              refine then_normal ?_
              refine awp_seq ?_
              obtain ⟨x9, hx9, h⟩ := bind_some h
              obtain ⟨x10, hx10, h⟩ := bind_some h
              refine awp_region (rs := [⟨[], [], (.bool x9), []⟩, ⟨[], [], (.bool x10), []⟩]) (cs := []) (live := [2, 3, 5, 6, 7, 8, 139]) (names := [2, 3, 6, 7]) (st' := (⟨[(2, (.ptr 2 0)), (3, (.ptr 3 0)), (5, (.int .i64 i2)), (6, (.ptr 6 0)), (7, (.ptr 7 0)), (8, (.int .i64 i6)), (139, (.bool (bif (bif (Q266 a_a i2 i6 a_p1) then true else (!x9)) then true else (!x10))))], (Q265 a_a a_p1 i2)⟩ : St)) (obs := [(0 < List.length (α := AV) (Q269 a_a i2 i6)), (0 < List.length (α := AV) (Q272 a_p1 i2 i6)), ((Q271 a_a i2 i6 a_p1) = true → (Q271 a_a i2 i6 a_p1) = true), ((Q271 a_a i2 i6 a_p1) = true → (1 < List.length (α := AV) (Q269 a_a i2 i6))), ((Q271 a_a i2 i6 a_p1) = true → (Q271 a_a i2 i6 a_p1) = true), ((Q271 a_a i2 i6 a_p1) = true → (1 < List.length (α := AV) (Q272 a_p1 i2 i6))), ((Q271 a_a i2 i6 a_p1) = true → (Q271 a_a i2 i6 a_p1) = true), ((Q271 a_a i2 i6 a_p1) = true → (Q271 a_a i2 i6 a_p1) = true), ((((Q289 a_a i2 i6).Bits : Int) != (Q283 a_p1 i2 i6).Bits) = false → (Q271 a_a i2 i6 a_p1) = true), ((Q284 a_a i2 i6 a_p1) = true → (Q284 a_a i2 i6 a_p1) = true), ((Q284 a_a i2 i6 a_p1) = true → (2 < List.length (α := AV) (Q269 a_a i2 i6))), ((Q284 a_a i2 i6 a_p1) = true → (Q284 a_a i2 i6 a_p1) = true), ((Q284 a_a i2 i6 a_p1) = true → (2 < List.length (α := AV) (Q272 a_p1 i2 i6))), ((Q284 a_a i2 i6 a_p1) = true → (Q284 a_a i2 i6 a_p1) = true), ((Q284 a_a i2 i6 a_p1) = true → (Q284 a_a i2 i6 a_p1) = true), ((Q284 a_a i2 i6 a_p1) = true → (Spec Try.prog 34 [(AV.list 1 eI64 (0 : Int) (Q289 a_a i2 i6).From .none), (AV.list 1 eI64 (0 : Int) (Q283 a_p1 i2 i6).From .none)] [] (.bool x9) [])), ((Q284 a_a i2 i6 a_p1) = true → (Q284 a_a i2 i6 a_p1) = true), ((Q266 a_a i2 i6 a_p1) = false → (Q284 a_a i2 i6 a_p1) = true), ((Q281 a_a i2 i6 a_p1 x9) = true → (Q281 a_a i2 i6 a_p1 x9) = true), ((Q281 a_a i2 i6 a_p1 x9) = true → (3 < List.length (α := AV) (Q269 a_a i2 i6))), ((Q281 a_a i2 i6 a_p1 x9) = true → (Q281 a_a i2 i6 a_p1 x9) = true), ((Q281 a_a i2 i6 a_p1 x9) = true → (3 < List.length (α := AV) (Q272 a_p1 i2 i6))), ((Q281 a_a i2 i6 a_p1 x9) = true → (Q281 a_a i2 i6 a_p1 x9) = true), ((Q281 a_a i2 i6 a_p1 x9) = true → (Q281 a_a i2 i6 a_p1 x9) = true), ((Q281 a_a i2 i6 a_p1 x9) = true → (Spec Try.prog 34 [(AV.list 1 eI64 (0 : Int) (Q289 a_a i2 i6).Args .none), (AV.list 1 eI64 (0 : Int) (Q283 a_p1 i2 i6).Args .none)] [] (.bool x10) [])), ((Q281 a_a i2 i6 a_p1 x9) = true → (Q281 a_a i2 i6 a_p1 x9) = true), ((bif (Q266 a_a i2 i6 a_p1) then true else (!x9)) = false → (Q281 a_a i2 i6 a_p1 x9) = true)]) hn mix (no_hand hΓ) (by kernel_rfl) ⟨(nl rfl), (nl rfl), (fun hg => hg), (fun hg => (nl rfl)), (fun hg => hg), (fun hg => (nl rfl)), (fun hg => hg), (fun hg => hg), gF, (fun hg => hg), (fun hg => (nl rfl)), (fun hg => hg), (fun hg => (nl rfl)), (fun hg => hg), (fun hg => hg), (fun hg => (ok_lockstepref02_Ints ((Q289 a_a i2 i6).From) ((Q283 a_p1 i2 i6).From) x9 (cond_t hg hx9))), (fun hg => hg), gF, (fun hg => hg), (fun hg => (nl rfl)), (fun hg => hg), (fun hg => (nl rfl)), (fun hg => hg), (fun hg => hg), (fun hg => (ok_lockstepref02_Ints ((Q289 a_a i2 i6).Args) ((Q283 a_p1 i2 i6).Args) x10 (cond_t hg hx10))), (fun hg => hg), gF, trivial⟩ ?_
              refine then_normal ?_
              refine awp_cond (bif (bif (Q266 a_a i2 i6 a_p1) then true else (!x9)) then true else (!x10)) (by kernel_rfl) (fun hb => ?_) (fun hb => ?_)
              · replace h := cond_t hb h
                clear hb
                refine awp_seq ?_
                refine awp_region (rs := []) (cs := []) (live := [4]) (names := []) (st' := (⟨[(4, (.bool false))], []⟩ : St)) (obs := []) hn mix (no_hand hΓ) (by kernel_rfl) trivial ?_
                refine then_normal ?_
                refine awp_ret ?_
                refine block_ret ?_
                refine then_ret ?_
                obtain rfl := Option.some.inj h
                exact ⟨(by intro hh; cases hh), rfl, ⟨.inl rfl, [], by kernel_rfl⟩⟩
              · replace h := cond_f hb h
                clear hb
                refine awp_skip ?_
                refine block_normal ?_
                refine then_normal ?_
                refine awp_region (rs := []) (cs := []) (live := [2, 3, 5, 6, 7, 8]) (names := [2, 3, 6, 7]) (st' := (⟨[(2, (.ptr 2 0)), (3, (.ptr 3 0)), (5, (.int .i64 i2)), (6, (.ptr 6 0)), (7, (.ptr 7 0)), (8, (.int .i64 (w64 (i6 + (1 : Int)))))], (Q265 a_a a_p1 i2)⟩ : St)) (obs := []) hn mix (no_hand hΓ) (by kernel_rfl) trivial ?_
                obtain rfl := Option.some.inj h
                exact ⟨rfl, Le.refl _ _⟩
            · replace h := cond_f hb h
              clear hb
              refine awp_exit ?_
              refine then_exit ?_
              obtain rfl := Option.some.inj h
              exact ⟨(by intro hh; cases hh), rfl, le_restrict_eq [2, 3, 5, 6, 7] [2, 3, 6, 7] (by kernel_rfl) (no_hand hΓ)⟩
          · clear hx11
            rcases x11 with _ | r20
            · rintro e st' ⟨rfl, hl12⟩
              refine block_here ?_
              refine then_normal ?_
              refine awp_le hl12 ?_
              refine awp_seq ?_
              refine awp_region (rs := []) (cs := []) (live := [2, 3, 5, 6, 7, 11]) (names := [2, 3, 6, 7]) (st' := (⟨[(2, (.ptr 2 0)), (3, (.ptr 3 0)), (5, (.int .i64 i2)), (6, (.ptr 6 0)), (7, (.ptr 7 0)), (11, Q293)], (Q265 a_a a_p1 i2)⟩ : St)) (obs := []) hn mix (no_hand hΓ) (by kernel_rfl) trivial ?_
              refine then_normal ?_
              refine awp_block ?_
              refine awp_le (st' := (Q290 i2 a_a a_p1) (0 : Int)) (Le.refl _ _) ?_
              obtain ⟨x17, hx17, h⟩ := bind_some h
              refine awp_loop (Q290 i2 a_a a_p1) _ (fun (x_ : (Unit ⊕ Bool)) (e : Exit) (st : St) => match x_ with | (.inl _) => e = (.exit 4) ∧ Le Γ st (Q292 i2 a_a a_p1) | (.inr r_) => e = .ret ∧ retK Try.prog Try.f18.results.toList [] (.bool r_) [] e st) ?_ hx17 ?_
              · intro i13 y h
                unfold m_lockstepref04_Same_L2 at h
                refine awp_seq ?_
                refine awp_seq ?_
                refine awp_region (rs := []) (cs := []) (live := [2, 3, 5, 6, 7, 11, 144]) (names := [2, 3, 6, 7]) (st' := (⟨[(2, (.ptr 2 0)), (3, (.ptr 3 0)), (5, (.int .i64 i2)), (6, (.ptr 6 0)), (7, (.ptr 7 0)), (11, (.int .i64 i13)), (144, (.bool (decide ((i13 : Int) < ((Q286 a_a i2).length : Int)))))], (Q265 a_a a_p1 i2)⟩ : St)) (obs := [(1 < List.length (α := AV) (Q276 a_a i2))]) hn mix (no_hand hΓ) (by kernel_rfl) ⟨(nl rfl), trivial⟩ ?_
                refine then_normal ?_
                refine awp_cond (decide ((i13 : Int) < ((Q286 a_a i2).length : Int))) (by kernel_rfl) (fun hb => ?_) (fun hb => ?_)
                · replace h := cond_t hb h
                  clear hb
                  refine awp_skip ?_
                  refine then_normal ?_
                  refine awp_seq ?_
                  refine awp_block ?_
                  refine awp_seq ?_
                  obtain ⟨hc14, h⟩ := chk_some h
                  obtain ⟨hc15, h⟩ := chk_some h
                  obtain ⟨x16, hx16, h⟩ := bind_some h
                  refine awp_region (rs := [⟨[], [], (.bool x16), []⟩]) (cs := []) (live := [2, 3, 5, 6, 7, 11, 158]) (names := [2, 3, 6, 7]) (st' := (⟨[(2, (.ptr 2 0)), (3, (.ptr 3 0)), (5, (.int .i64 i2)), (6, (.ptr 6 0)), (7, (.ptr 7 0)), (11, (.int .i64 i13)), (158, (.bool (!x16)))], (Q265 a_a a_p1 i2)⟩ : St)) (obs := [(1 < List.length (α := AV) (Q276 a_a i2)), (InB i13 (Q286 a_a i2).length), (1 < List.length (α := AV) (Q277 a_p1 i2)), (InB i13 ((Q288 a_p1 i2).Ops).length), (Spec Try.prog 35 [(.agg (eTOp ((Q286 a_a i2).getD (i13).toNat (default : TOp)))), (.agg (eTOp (((Q288 a_p1 i2).Ops).getD (i13).toNat (default : TOp))))] [] (.bool x16) [])]) hn mix (no_hand hΓ) (by kernel_rfl) ⟨(nl rfl), hc14, (nl rfl), hc15, (ok_lockstepref03_Same ((Q286 a_a i2).getD (i13).toNat (default : TOp)) (((Q288 a_p1 i2).Ops).getD (i13).toNat (default : TOp)) x16 hx16), trivial⟩ ?_
                  refine then_normal ?_
                  refine awp_cond (!x16) (by kernel_rfl) (fun hb => ?_) (fun hb => ?_)
                  · replace h := cond_t hb h
                    clear hb
                    refine awp_seq ?_
                    refine awp_region (rs := []) (cs := []) (live := [4]) (names := []) (st' := (⟨[(4, (.bool false))], []⟩ : St)) (obs := []) hn mix (no_hand hΓ) (by kernel_rfl) trivial ?_
                    refine then_normal ?_
                    refine awp_ret ?_
                    refine block_ret ?_
                    refine then_ret ?_
                    obtain rfl := Option.some.inj h
                    exact ⟨(by intro hh; cases hh), rfl, ⟨.inl rfl, [], by kernel_rfl⟩⟩
                  · replace h := cond_f hb h
                    clear hb
                    refine awp_skip ?_
                    refine block_normal ?_
                    refine then_normal ?_
                    refine awp_region (rs := []) (cs := []) (live := [2, 3, 5, 6, 7, 11]) (names := [2, 3, 6, 7]) (st' := (⟨[(2, (.ptr 2 0)), (3, (.ptr 3 0)), (5, (.int .i64 i2)), (6, (.ptr 6 0)), (7, (.ptr 7 0)), (11, (.int .i64 (w64 (i13 + (1 : Int)))))], (Q265 a_a a_p1 i2)⟩ : St)) (obs := []) hn mix (no_hand hΓ) (by kernel_rfl) trivial ?_
                    obtain rfl := Option.some.inj h
                    exact ⟨rfl, Le.refl _ _⟩
                · replace h := cond_f hb h
                  clear hb
                  refine awp_exit ?_
                  refine then_exit ?_
                  obtain rfl := Option.some.inj h
                  exact ⟨(by intro hh; cases hh), rfl, le_restrict_eq [2, 3, 5] [2, 3] (by kernel_rfl) (no_hand hΓ)⟩
              · clear hx17
                rcases x17 with _ | r19
                · rintro e st' ⟨rfl, hl18⟩
                  refine block_here ?_
                  refine block_normal ?_
                  refine then_normal ?_
                  refine awp_le hl18 ?_
                  refine awp_region (rs := []) (cs := []) (live := [2, 3, 5]) (names := [2, 3]) (st' := (⟨[(2, (.ptr 2 0)), (3, (.ptr 3 0)), (5, (.int .i64 (w64 (i2 + (1 : Int)))))], (Q273 a_a a_p1)⟩ : St)) (obs := []) hn mix (no_hand hΓ) (by kernel_rfl) trivial ?_
                  obtain rfl := Option.some.inj h
                  exact ⟨rfl, Le.refl _ _⟩
                · rintro e st' ⟨rfl, hk⟩
                  refine block_ret ?_
                  refine block_ret ?_
                  refine then_ret ?_
                  obtain rfl := Option.some.inj h
                  exact ⟨(by intro hh; cases hh), rfl, hk⟩
            · rintro e st' ⟨rfl, hk⟩
              refine block_ret ?_
              refine then_ret ?_
              refine block_ret ?_
              refine then_ret ?_
              obtain rfl := Option.some.inj h
              exact ⟨(by intro hh; cases hh), rfl, hk⟩
      · replace h := cond_f hb h
        clear hb
        refine awp_exit ?_
        refine then_exit ?_
        obtain rfl := Option.some.inj h
        exact ⟨(by intro hh; cases hh), rfl, le_restrict_eq [] [] (by kernel_rfl) (no_hand hΓ)⟩
    · clear hx21
      rcases x21 with _ | r23
      · rintro e st' ⟨rfl, hl22⟩
        refine block_here ?_
        refine then_normal ?_
        refine awp_le hl22 ?_
        refine awp_seq ?_
        refine awp_region (rs := []) (cs := []) (live := [4]) (names := []) (st' := (⟨[(4, (.bool true))], []⟩ : St)) (obs := []) hn mix (no_hand hΓ) (by kernel_rfl) trivial ?_
        refine then_normal ?_
        refine awp_ret ?_
        obtain rfl := Option.some.inj h
        exact ⟨.inl rfl, [], by kernel_rfl⟩
      · rintro e st' ⟨rfl, hk⟩
        refine block_ret ?_
        refine then_ret ?_
        obtain rfl := Option.some.inj h
        exact hk

noncomputable def m_slices_Equal_int_int_L1 (a_s1 : List (Int)) (a_s2 : List (Int)) : Int → Option (LR Int (Unit ⊕ Bool)) :=
  fun (i1 : Int) => (bif (decide ((i1 : Int) < (a_s1.length : Int))) then (chk (InB i1 a_s1.length) (chk (InB i1 a_s2.length) (bif (((a_s1.getD (i1).toNat (0 : Int)) : Int) != (a_s2.getD (i1).toNat (0 : Int))) then (some (.done (.inr false))) else (some (.next (w64 (i1 + (1 : Int)))))))) else (some (.done (.inl ()))))
noncomputable def Q296 (a_s1 : List (Int)) : AV := (.int .i64 (a_s1.length : Int))
noncomputable def Q294 (a_s1 : List (Int)) : AV := (AV.list 1 eI64 (0 : Int) a_s1 .none)
noncomputable def Q295 (a_s2 : List (Int)) : AV := (AV.list 1 eI64 (0 : Int) a_s2 .none)
noncomputable def m_slices_Equal_int_int (a_s1 : List (Int)) (a_s2 : List (Int)) : Option Bool :=
  (bif (((a_s1.length : Int) : Int) != (a_s2.length : Int)) then (some false) else ((loopO (S := Int) (X := (Unit ⊕ Bool)) (m_slices_Equal_int_int_L1 a_s1 a_s2) (0 : Int)).bind (fun x4 => (match x4 with | (.inl _) => (some true) | (.inr r6) => (some r6)))))
theorem ok_slices_Equal_int_int (a_s1 : List (Int)) (a_s2 : List (Int)) (r : Bool) (h : m_slices_Equal_int_int a_s1 a_s2 = some r) : Spec Try.prog 36 [(AV.list 1 eI64 (0 : Int) a_s1 .none), (AV.list 1 eI64 (0 : Int) a_s2 .none)] [] (.bool r) [] := by
  refine spec_of_awp (fn := Try.f36) Try.func36 rfl rfl (by kernel_rfl) (fun Γ hn hΓ => ?_)
  have hn : Γ.n = 26 := hn
  unfold m_slices_Equal_int_int at h
  refine awp_seq ?_
  refine awp_region (rs := []) (cs := []) (live := [0, 1]) (names := []) (st' := (⟨[(0, (Q294 a_s1)), (1, (Q295 a_s2))], []⟩ : St)) (obs := []) hn mix (no_hand hΓ) (by kernel_rfl) trivial ?_
  refine then_normal ?_
  refine awp_seq ?_
  refine awp_seq ?_
  refine awp_region (rs := []) (cs := []) (live := [0, 1, 10]) (names := []) (st' := (⟨[(0, (Q294 a_s1)), (1, (Q295 a_s2)), (10, (.bool (((a_s1.length : Int) : Int) != (a_s2.length : Int))))], []⟩ : St)) (obs := []) hn mix (no_hand hΓ) (by kernel_rfl) trivial ?_
  refine then_normal ?_
  refine awp_cond (((a_s1.length : Int) : Int) != (a_s2.length : Int)) (by kernel_rfl) (fun hb => ?_) (fun hb => ?_)
  · replace h := cond_t hb h
    clear hb
    refine awp_seq ?_
    refine awp_region (rs := []) (cs := []) (live := [4]) (names := []) (st' := (⟨[(4, (.bool false))], []⟩ : St)) (obs := []) hn mix (no_hand hΓ) (by kernel_rfl) trivial ?_
    refine then_normal ?_
    refine awp_ret ?_
    refine then_ret ?_
    obtain rfl := Option.some.inj h
    exact ⟨.inl rfl, [], by kernel_rfl⟩
  · replace h := cond_f hb h
    clear hb
    refine awp_skip ?_
    refine then_normal ?_
    refine awp_seq ?_
    refine awp_seq ?_
    refine awp_region (rs := []) (cs := []) (live := [0, 1, 12, 13]) (names := []) (st' := (⟨[(0, (Q294 a_s1)), (1, (Q295 a_s2)), (12, (Q296 a_s1)), (13, (.int .i64 (0 : Int)))], []⟩ : St)) (obs := []) hn mix (no_hand hΓ) (by kernel_rfl) trivial ?_
    refine then_normal ?_
    refine awp_block ?_
    refine awp_le (st' := (fun (i1 : Int) => (⟨[(0, (Q294 a_s1)), (1, (Q295 a_s2)), (12, (Q296 a_s1)), (13, (.int .i64 i1))], []⟩ : St)) (0 : Int)) (Le.refl _ _) ?_
    obtain ⟨x4, hx4, h⟩ := bind_some h
    refine awp_loop (fun (i1 : Int) => (⟨[(0, (Q294 a_s1)), (1, (Q295 a_s2)), (12, (Q296 a_s1)), (13, (.int .i64 i1))], []⟩ : St)) _ (fun (x_ : (Unit ⊕ Bool)) (e : Exit) (st : St) => match x_ with | (.inl _) => e = (.exit 0) ∧ Le Γ st (⟨[], []⟩ : St) | (.inr r_) => e = .ret ∧ retK Try.prog Try.f36.results.toList [] (.bool r_) [] e st) ?_ hx4 ?_
    · intro i1 y h
      unfold m_slices_Equal_int_int_L1 at h
      refine awp_seq ?_
      refine awp_region (rs := []) (cs := []) (live := [0, 1, 12, 13, 14]) (names := []) (st' := (⟨[(0, (Q294 a_s1)), (1, (Q295 a_s2)), (12, (Q296 a_s1)), (13, (.int .i64 i1)), (14, (.bool (decide ((i1 : Int) < (a_s1.length : Int)))))], []⟩ : St)) (obs := []) hn mix (no_hand hΓ) (by kernel_rfl) trivial ?_
      refine then_normal ?_
      refine awp_seq ?_
      refine awp_cond (decide ((i1 : Int) < (a_s1.length : Int))) (by kernel_rfl) (fun hb => ?_) (fun hb => ?_)
      · replace h := cond_t hb h
        clear hb
        refine awp_skip ?_
        refine then_normal ?_
        refine awp_seq ?_
        refine awp_block ?_
        refine awp_seq ?_
        refine awp_region (rs := []) (cs := []) (live := [0, 1, 5, 12, 13]) (names := []) (st' := (⟨[(0, (Q294 a_s1)), (1, (Q295 a_s2)), (5, (.int .i64 i1)), (12, (Q296 a_s1)), (13, (.int .i64 i1))], []⟩ : St)) (obs := []) hn mix (no_hand hΓ) (by kernel_rfl) trivial ?_
        refine then_normal ?_
        refine awp_seq ?_
        obtain ⟨hc2, h⟩ := chk_some h
        obtain ⟨hc3, h⟩ := chk_some h
        refine awp_region (rs := []) (cs := []) (live := [0, 1, 12, 13, 24]) (names := []) (st' := (⟨[(0, (Q294 a_s1)), (1, (Q295 a_s2)), (12, (Q296 a_s1)), (13, (.int .i64 i1)), (24, (.bool (((a_s1.getD (i1).toNat (0 : Int)) : Int) != (a_s2.getD (i1).toNat (0 : Int)))))], []⟩ : St)) (obs := [(InB i1 a_s1.length), (InB i1 a_s2.length)]) hn mix (no_hand hΓ) (by kernel_rfl) ⟨hc2, hc3, trivial⟩ ?_
        refine then_normal ?_
        refine awp_cond (((a_s1.getD (i1).toNat (0 : Int)) : Int) != (a_s2.getD (i1).toNat (0 : Int))) (by kernel_rfl) (fun hb => ?_) (fun hb => ?_)
        · replace h := cond_t hb h
          clear hb
          refine awp_seq ?_
          refine awp_region (rs := []) (cs := []) (live := [4]) (names := []) (st' := (⟨[(4, (.bool false))], []⟩ : St)) (obs := []) hn mix (no_hand hΓ) (by kernel_rfl) trivial ?_
          refine then_normal ?_
          refine awp_ret ?_
          refine block_ret ?_
          refine then_ret ?_
          obtain rfl := Option.some.inj h
          exact ⟨(by intro hh; cases hh), rfl, ⟨.inl rfl, [], by kernel_rfl⟩⟩
        · replace h := cond_f hb h
          clear hb
          refine awp_skip ?_
          refine block_normal ?_
          refine then_normal ?_
          refine awp_region (rs := []) (cs := []) (live := [0, 1, 12, 13]) (names := []) (st' := (⟨[(0, (Q294 a_s1)), (1, (Q295 a_s2)), (12, (Q296 a_s1)), (13, (.int .i64 (w64 (i1 + (1 : Int)))))], []⟩ : St)) (obs := []) hn mix (no_hand hΓ) (by kernel_rfl) trivial ?_
          obtain rfl := Option.some.inj h
          exact ⟨rfl, Le.refl _ _⟩
      · replace h := cond_f hb h
        clear hb
        refine awp_exit ?_
        refine then_exit ?_
        obtain rfl := Option.some.inj h
        exact ⟨(by intro hh; cases hh), rfl, le_restrict_eq [] [] (by kernel_rfl) (no_hand hΓ)⟩
    · clear hx4
      rcases x4 with _ | r6
      · rintro e st' ⟨rfl, hl5⟩
        refine block_here ?_
        refine then_normal ?_
        refine awp_le hl5 ?_
        refine awp_seq ?_
        refine awp_region (rs := []) (cs := []) (live := [4]) (names := []) (st' := (⟨[(4, (.bool true))], []⟩ : St)) (obs := []) hn mix (no_hand hΓ) (by kernel_rfl) trivial ?_
        refine then_normal ?_
        refine awp_ret ?_
        obtain rfl := Option.some.inj h
        exact ⟨.inl rfl, [], by kernel_rfl⟩
      · rintro e st' ⟨rfl, hk⟩
        refine block_ret ?_
        refine then_ret ?_
        obtain rfl := Option.some.inj h
        exact hk

noncomputable def Q297 (a_a : TPhi) (a_b : TPhi) := (bif ((a_a.Bits : Int) == a_b.Bits) then ((a_a.Dst : Int) == a_b.Dst) else false)
noncomputable def Q302 (a_a : TPhi) (a_b : TPhi) := ((Q297 a_a a_b) == true)
noncomputable def Q300 (a_a : TPhi) (a_b : TPhi) := (((a_a.Bits : Int) == a_b.Bits) == true)
noncomputable def Q301 (a_a : TPhi) (a_b : TPhi) (x1 : Bool) := ((bif (Q297 a_a a_b) then x1 else false) == true)
noncomputable def Q298 (a_a : TPhi) : List AV := [(.int .i64 a_a.Bits), (.int .i64 a_a.Dst), (AV.list 1 eI64 (0 : Int) a_a.From .none), (AV.list 1 eI64 (0 : Int) a_a.Args .none)]
noncomputable def Q299 (a_b : TPhi) : List AV := [(.int .i64 a_b.Bits), (.int .i64 a_b.Dst), (AV.list 1 eI64 (0 : Int) a_b.From .none), (AV.list 1 eI64 (0 : Int) a_b.Args .none)]
noncomputable def m_code_samePhi (a_a : TPhi) (a_b : TPhi) : Option Bool :=
  ((bif ((bif ((a_a.Bits : Int) == a_b.Bits) then ((a_a.Dst : Int) == a_b.Dst) else false) == true) then m_slices_Equal_int_int a_a.From a_b.From else some false).bind fun x1 => ((bif ((bif (bif ((a_a.Bits : Int) == a_b.Bits) then ((a_a.Dst : Int) == a_b.Dst) else false) then x1 else false) == true) then m_slices_Equal_int_int a_a.Args a_b.Args else some false).bind fun x2 => (some (bif (bif (bif ((a_a.Bits : Int) == a_b.Bits) then ((a_a.Dst : Int) == a_b.Dst) else false) then x1 else false) then x2 else false))))
theorem ok_code_samePhi (a_a : TPhi) (a_b : TPhi) (r : Bool) (h : m_code_samePhi a_a a_b = some r) : Spec Try.prog 50 [(.agg (eTPhi a_a)), (.agg (eTPhi a_b))] [] (.bool r) [] := by
  refine spec_of_awp (fn := Try.f50) Try.func50 rfl rfl (by kernel_rfl) (fun Γ hn hΓ => ?_)
  have hn : Γ.n = 31 := hn
  unfold m_code_samePhi at h
  refine awp_seq ?_
  refine awp_region (rs := []) (cs := []) (live := [2, 3]) (names := [2, 3]) (st' := (⟨[(2, (.ptr 2 0)), (3, (.ptr 3 0))], [(2, .row (Q298 a_a)), (3, .row (Q299 a_b))]⟩ : St)) (obs := []) hn mix (no_hand hΓ) (by kernel_rfl) trivial ?_
  refine then_normal ?_
  refine awp_seq ?_
  obtain ⟨x1, hx1, h⟩ := bind_some h
  obtain ⟨x2, hx2, h⟩ := bind_some h
  refine awp_region (rs := [⟨[], [], (.bool x1), []⟩, ⟨[], [], (.bool x2), []⟩]) (cs := []) (live := [4]) (names := []) (st' := (⟨[(4, (.bool (bif (bif (Q297 a_a a_b) then x1 else false) then x2 else false)))], []⟩ : St)) (obs := [(0 < List.length (α := AV) (Q298 a_a)), (0 < List.length (α := AV) (Q299 a_b)), ((Q300 a_a a_b) = true → (Q300 a_a a_b) = true), ((Q300 a_a a_b) = true → (1 < List.length (α := AV) (Q298 a_a))), ((Q300 a_a a_b) = true → (Q300 a_a a_b) = true), ((Q300 a_a a_b) = true → (1 < List.length (α := AV) (Q299 a_b))), ((Q300 a_a a_b) = true → (Q300 a_a a_b) = true), ((Q300 a_a a_b) = true → (Q300 a_a a_b) = true), (((a_a.Bits : Int) == a_b.Bits) = true → (Q300 a_a a_b) = true), ((Q302 a_a a_b) = true → (Q302 a_a a_b) = true), ((Q302 a_a a_b) = true → (2 < List.length (α := AV) (Q298 a_a))), ((Q302 a_a a_b) = true → (Q302 a_a a_b) = true), ((Q302 a_a a_b) = true → (2 < List.length (α := AV) (Q299 a_b))), ((Q302 a_a a_b) = true → (Q302 a_a a_b) = true), ((Q302 a_a a_b) = true → (Q302 a_a a_b) = true), ((Q302 a_a a_b) = true → (Spec Try.prog 36 [(AV.list 1 eI64 (0 : Int) a_a.From .none), (AV.list 1 eI64 (0 : Int) a_b.From .none)] [] (.bool x1) [])), ((Q297 a_a a_b) = true → (Q302 a_a a_b) = true), ((Q301 a_a a_b x1) = true → (Q301 a_a a_b x1) = true), ((Q301 a_a a_b x1) = true → (3 < List.length (α := AV) (Q298 a_a))), ((Q301 a_a a_b x1) = true → (Q301 a_a a_b x1) = true), ((Q301 a_a a_b x1) = true → (3 < List.length (α := AV) (Q299 a_b))), ((Q301 a_a a_b x1) = true → (Q301 a_a a_b x1) = true), ((Q301 a_a a_b x1) = true → (Q301 a_a a_b x1) = true), ((Q301 a_a a_b x1) = true → (Spec Try.prog 36 [(AV.list 1 eI64 (0 : Int) a_a.Args .none), (AV.list 1 eI64 (0 : Int) a_b.Args .none)] [] (.bool x2) [])), ((bif (Q297 a_a a_b) then x1 else false) = true → (Q301 a_a a_b x1) = true)]) hn mix (no_hand hΓ) (by kernel_rfl) ⟨(nl rfl), (nl rfl), (fun hg => hg), (fun hg => (nl rfl)), (fun hg => hg), (fun hg => (nl rfl)), (fun hg => hg), (fun hg => hg), gT, (fun hg => hg), (fun hg => (nl rfl)), (fun hg => hg), (fun hg => (nl rfl)), (fun hg => hg), (fun hg => hg), (fun hg => (ok_slices_Equal_int_int a_a.From a_b.From x1 (cond_t hg hx1))), gT, (fun hg => hg), (fun hg => (nl rfl)), (fun hg => hg), (fun hg => (nl rfl)), (fun hg => hg), (fun hg => hg), (fun hg => (ok_slices_Equal_int_int a_a.Args a_b.Args x2 (cond_t hg hx2))), gT, trivial⟩ ?_
  refine then_normal ?_
  refine awp_ret ?_
  obtain rfl := Option.some.inj h
  exact ⟨.inl rfl, [], by kernel_rfl⟩

noncomputable def m_slices_EqualFunc_api_Phi_api_Phi_api_Phi_api_Phi_L1 (a_s1 : List (TPhi)) (a_s2 : List (TPhi)) : Int → Option (LR Int (Unit ⊕ Bool)) :=
  fun (i1 : Int) => (bif (decide ((i1 : Int) < (a_s1.length : Int))) then (chk (InB i1 a_s1.length) (chk (InB i1 a_s2.length) ((m_code_samePhi (a_s1.getD (i1).toNat (default : TPhi)) (a_s2.getD (i1).toNat (default : TPhi))).bind fun x4 => (bif (!x4) then (some (.done (.inr false))) else (some (.next (w64 (i1 + (1 : Int))))))))) else (some (.done (.inl ()))))
noncomputable def Q307 (a_s1 : List (TPhi)) : AV := (.int .i64 (a_s1.length : Int))
noncomputable def Q306 (a_s2 : List (TPhi)) (i1 : Int) := (a_s2.getD (i1).toNat (default : TPhi))
noncomputable def Q304 (a_s1 : List (TPhi)) : AV := (AV.list 4 eTPhi (default : TPhi) a_s1 .none)
noncomputable def Q305 (a_s2 : List (TPhi)) : AV := (AV.list 4 eTPhi (default : TPhi) a_s2 .none)
noncomputable def Q308 (a_s2 : List (TPhi)) (i1 : Int) : List AV := [(.int .i64 (Q306 a_s2 i1).Bits), (.int .i64 (Q306 a_s2 i1).Dst), (AV.list 1 eI64 (0 : Int) (Q306 a_s2 i1).From .none), (AV.list 1 eI64 (0 : Int) (Q306 a_s2 i1).Args .none)]
noncomputable def Q303 (a_s1 : List (TPhi)) (i1 : Int) : List AV := [(.int .i64 (a_s1.getD (i1).toNat (default : TPhi)).Bits), (.int .i64 (a_s1.getD (i1).toNat (default : TPhi)).Dst), (AV.list 1 eI64 (0 : Int) (a_s1.getD (i1).toNat (default : TPhi)).From .none), (AV.list 1 eI64 (0 : Int) (a_s1.getD (i1).toNat (default : TPhi)).Args .none)]
noncomputable def m_slices_EqualFunc_api_Phi_api_Phi_api_Phi_api_Phi (a_s1 : List (TPhi)) (a_s2 : List (TPhi)) : Option Bool :=
  (bif (((a_s1.length : Int) : Int) != (a_s2.length : Int)) then (some false) else ((loopO (S := Int) (X := (Unit ⊕ Bool)) (m_slices_EqualFunc_api_Phi_api_Phi_api_Phi_api_Phi_L1 a_s1 a_s2) (0 : Int)).bind (fun x5 => (match x5 with | (.inl _) => (some true) | (.inr r7) => (some r7)))))
theorem ok_slices_EqualFunc_api_Phi_api_Phi_api_Phi_api_Phi (a_s1 : List (TPhi)) (a_s2 : List (TPhi)) (r : Bool) (h : m_slices_EqualFunc_api_Phi_api_Phi_api_Phi_api_Phi a_s1 a_s2 = some r) : Spec Try.prog 49 [(AV.list 4 eTPhi (default : TPhi) a_s1 .none), (AV.list 4 eTPhi (default : TPhi) a_s2 .none), (.clo 50 [] [])] [] (.bool r) [] := by
  refine spec_of_awp (fn := Try.f49) Try.func49 rfl rfl (by kernel_rfl) (fun Γ hn hΓ => ?_)
  have hn : Γ.n = 32 := hn
  unfold m_slices_EqualFunc_api_Phi_api_Phi_api_Phi_api_Phi at h
  refine awp_seq ?_
  refine awp_region (rs := []) (cs := []) (live := [0, 1, 2]) (names := []) (st' := (⟨[(0, (Q304 a_s1)), (1, (Q305 a_s2)), (2, (.clo 50 [] []))], []⟩ : St)) (obs := []) hn mix (no_hand hΓ) (by kernel_rfl) trivial ?_
  refine then_normal ?_
  refine awp_seq ?_
  refine awp_seq ?_
  refine awp_region (rs := []) (cs := []) (live := [0, 1, 2, 14]) (names := []) (st' := (⟨[(0, (Q304 a_s1)), (1, (Q305 a_s2)), (2, (.clo 50 [] [])), (14, (.bool (((a_s1.length : Int) : Int) != (a_s2.length : Int))))], []⟩ : St)) (obs := []) hn mix (no_hand hΓ) (by kernel_rfl) trivial ?_
  refine then_normal ?_
  refine awp_cond (((a_s1.length : Int) : Int) != (a_s2.length : Int)) (by kernel_rfl) (fun hb => ?_) (fun hb => ?_)
  · replace h := cond_t hb h
    clear hb
    refine awp_seq ?_
    refine awp_region (rs := []) (cs := []) (live := [6]) (names := []) (st' := (⟨[(6, (.bool false))], []⟩ : St)) (obs := []) hn mix (no_hand hΓ) (by kernel_rfl) trivial ?_
    refine then_normal ?_
    refine awp_ret ?_
    refine then_ret ?_
    obtain rfl := Option.some.inj h
    exact ⟨.inl rfl, [], by kernel_rfl⟩
  · replace h := cond_f hb h
    clear hb
    refine awp_skip ?_
    refine then_normal ?_
    refine awp_seq ?_
    refine awp_seq ?_
    refine awp_region (rs := []) (cs := []) (live := [1, 2, 15, 16, 17]) (names := []) (st' := (⟨[(1, (Q305 a_s2)), (2, (.clo 50 [] [])), (15, (Q304 a_s1)), (16, (Q307 a_s1)), (17, (.int .i64 (0 : Int)))], []⟩ : St)) (obs := []) hn mix (no_hand hΓ) (by kernel_rfl) trivial ?_
    refine then_normal ?_
    refine awp_block ?_
    refine awp_le (st' := (fun (i1 : Int) => (⟨[(1, (Q305 a_s2)), (2, (.clo 50 [] [])), (15, (Q304 a_s1)), (16, (Q307 a_s1)), (17, (.int .i64 i1))], []⟩ : St)) (0 : Int)) (Le.refl _ _) ?_
    obtain ⟨x5, hx5, h⟩ := bind_some h
    refine awp_loop (fun (i1 : Int) => (⟨[(1, (Q305 a_s2)), (2, (.clo 50 [] [])), (15, (Q304 a_s1)), (16, (Q307 a_s1)), (17, (.int .i64 i1))], []⟩ : St)) _ (fun (x_ : (Unit ⊕ Bool)) (e : Exit) (st : St) => match x_ with | (.inl _) => e = (.exit 0) ∧ Le Γ st (⟨[], []⟩ : St) | (.inr r_) => e = .ret ∧ retK Try.prog Try.f49.results.toList [] (.bool r_) [] e st) ?_ hx5 ?_
    · intro i1 y h
      unfold m_slices_EqualFunc_api_Phi_api_Phi_api_Phi_api_Phi_L1 at h
      refine awp_seq ?_
      refine awp_region (rs := []) (cs := []) (live := [1, 2, 15, 16, 17, 18]) (names := []) (st' := (⟨[(1, (Q305 a_s2)), (2, (.clo 50 [] [])), (15, (Q304 a_s1)), (16, (Q307 a_s1)), (17, (.int .i64 i1)), (18, (.bool (decide ((i1 : Int) < (a_s1.length : Int)))))], []⟩ : St)) (obs := []) hn mix (no_hand hΓ) (by kernel_rfl) trivial ?_
      refine then_normal ?_
      refine awp_seq ?_
      refine awp_cond (decide ((i1 : Int) < (a_s1.length : Int))) (by kernel_rfl) (fun hb => ?_) (fun hb => ?_)
      · replace h := cond_t hb h
        clear hb
        refine awp_skip ?_
        refine then_normal ?_
        refine awp_seq ?_
        refine awp_block ?_
        refine awp_seq ?_
        obtain ⟨hc2, h⟩ := chk_some h
        refine awp_region (rs := []) (cs := []) (live := [1, 2, 7, 8, 15, 16, 17]) (names := [8]) (st' := (⟨[(1, (Q305 a_s2)), (2, (.clo 50 [] [])), (7, (.int .i64 i1)), (8, (.ptr 8 0)), (15, (Q304 a_s1)), (16, (Q307 a_s1)), (17, (.int .i64 i1))], [(8, .row (Q303 a_s1 i1))]⟩ : St)) (obs := [(InB i1 a_s1.length), (0 + List.length (α := AV) (eTPhi (a_s1.getD (i1).toNat (default : TPhi))) ≤ List.length (α := AV) [(.int .i64 (0 : Int)), (.int .i64 (0 : Int)), (.slice 0 0 (fun _ => []) .exact), (.slice 0 0 (fun _ => []) .exact)])]) hn mix (no_hand hΓ) (by kernel_rfl) ⟨hc2, (nl rfl), trivial⟩ ?_
        refine then_normal ?_
        refine awp_seq ?_
        obtain ⟨hc3, h⟩ := chk_some h
        refine awp_region (rs := []) (cs := []) (live := [1, 2, 8, 9, 15, 16, 17]) (names := [8, 9]) (st' := (⟨[(1, (Q305 a_s2)), (2, (.clo 50 [] [])), (8, (.ptr 8 0)), (9, (.ptr 9 0)), (15, (Q304 a_s1)), (16, (Q307 a_s1)), (17, (.int .i64 i1))], [(8, .row (Q303 a_s1 i1)), (9, .row (Q308 a_s2 i1))]⟩ : St)) (obs := [(InB i1 a_s2.length), (0 + List.length (α := AV) (eTPhi (Q306 a_s2 i1)) ≤ List.length (α := AV) [(.int .i64 (0 : Int)), (.int .i64 (0 : Int)), (.slice 0 0 (fun _ => []) .exact), (.slice 0 0 (fun _ => []) .exact)])]) hn mix (no_hand hΓ) (by kernel_rfl) ⟨hc3, (nl rfl), trivial⟩ ?_
        refine then_normal ?_
        refine awp_seq ?_
        obtain ⟨x4, hx4, h⟩ := bind_some h
        refine awp_region (rs := [⟨[], [], (.bool x4), []⟩]) (cs := []) (live := [1, 2, 15, 16, 17, 30]) (names := []) (st' := (⟨[(1, (Q305 a_s2)), (2, (.clo 50 [] [])), (15, (Q304 a_s1)), (16, (Q307 a_s1)), (17, (.int .i64 i1)), (30, (.bool (!x4)))], []⟩ : St)) (obs := [(0 + 4 ≤ List.length (α := AV) (Q303 a_s1 i1)), (0 + 4 ≤ List.length (α := AV) (Q308 a_s2 i1)), (Spec Try.prog 50 [(.agg (eTPhi (a_s1.getD (i1).toNat (default : TPhi)))), (.agg (eTPhi (Q306 a_s2 i1)))] [] (.bool x4) [])]) hn mix (no_hand hΓ) (by kernel_rfl) ⟨(nl rfl), (nl rfl), (ok_code_samePhi (a_s1.getD (i1).toNat (default : TPhi)) (Q306 a_s2 i1) x4 hx4), trivial⟩ ?_
        refine then_normal ?_
        refine awp_cond (!x4) (by kernel_rfl) (fun hb => ?_) (fun hb => ?_)
        · replace h := cond_t hb h
          clear hb
          refine awp_seq ?_
          refine awp_region (rs := []) (cs := []) (live := [6]) (names := []) (st' := (⟨[(6, (.bool false))], []⟩ : St)) (obs := []) hn mix (no_hand hΓ) (by kernel_rfl) trivial ?_
          refine then_normal ?_
          refine awp_ret ?_
          refine block_ret ?_
          refine then_ret ?_
          obtain rfl := Option.some.inj h
          exact ⟨(by intro hh; cases hh), rfl, ⟨.inl rfl, [], by kernel_rfl⟩⟩
        · replace h := cond_f hb h
          clear hb
          refine awp_skip ?_
          refine block_normal ?_
          refine then_normal ?_
          refine awp_region (rs := []) (cs := []) (live := [1, 2, 15, 16, 17]) (names := []) (st' := (⟨[(1, (Q305 a_s2)), (2, (.clo 50 [] [])), (15, (Q304 a_s1)), (16, (Q307 a_s1)), (17, (.int .i64 (w64 (i1 + (1 : Int)))))], []⟩ : St)) (obs := []) hn mix (no_hand hΓ) (by kernel_rfl) trivial ?_
          obtain rfl := Option.some.inj h
          exact ⟨rfl, Le.refl _ _⟩
      · replace h := cond_f hb h
        clear hb
        refine awp_exit ?_
        refine then_exit ?_
        obtain rfl := Option.some.inj h
        exact ⟨(by intro hh; cases hh), rfl, le_restrict_eq [] [] (by kernel_rfl) (no_hand hΓ)⟩
    · clear hx5
      rcases x5 with _ | r7
      · rintro e st' ⟨rfl, hl6⟩
        refine block_here ?_
        refine then_normal ?_
        refine awp_le hl6 ?_
        refine awp_seq ?_
        refine awp_region (rs := []) (cs := []) (live := [6]) (names := []) (st' := (⟨[(6, (.bool true))], []⟩ : St)) (obs := []) hn mix (no_hand hΓ) (by kernel_rfl) trivial ?_
        refine then_normal ?_
        refine awp_ret ?_
        obtain rfl := Option.some.inj h
        exact ⟨.inl rfl, [], by kernel_rfl⟩
      · rintro e st' ⟨rfl, hk⟩
        refine block_ret ?_
        refine then_ret ?_
        obtain rfl := Option.some.inj h
        exact hk
end Go.Proofs.Ytmlldiinidkecaa
