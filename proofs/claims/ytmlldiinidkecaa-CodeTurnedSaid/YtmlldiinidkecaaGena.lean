/-
  What the functions compute, and that they do (part 1 of 3).
-/
import Derived.Test.YtmlldiinidkecaaFrz
import Derived.Test.YtmlldiinidkecaaProg
namespace Go.Proofs.Ytmlldiinidkecaa
open Go Go.RowKit
set_option linter.unusedVariables false
set_option maxRecDepth 100000
set_option maxHeartbeats 2000000
def eI64 (x : Int) : List AV := [(.int .i64 x)]
def eLI64 (x : List (Int)) : List AV := [(AV.list 1 eI64 (0 : Int) x .none)]
structure TPhi where
  Bits : Int
  Dst : Int
  From : List (Int)
  Args : List (Int)
  deriving Inhabited, DecidableEq
def eTPhi (x : TPhi) : List AV := [(.int .i64 x.Bits), (.int .i64 x.Dst), (AV.list 1 eI64 (0 : Int) x.From .none), (AV.list 1 eI64 (0 : Int) x.Args .none)]
def eLTPhi (x : List (TPhi)) : List AV := [(AV.list 4 eTPhi (default : TPhi) x .none)]
def eU64 (x : Int) : List AV := [(.int .u64 x)]
structure TOp where
  Kind : Int
  Bits : Int
  Lanes : Int
  Dst : Int
  Args : List (Int)
  Imm : Int
  deriving Inhabited, DecidableEq
def eTOp (x : TOp) : List AV := [(.int .i64 x.Kind), (.int .i64 x.Bits), (.int .i64 x.Lanes), (.int .i64 x.Dst), (AV.list 1 eI64 (0 : Int) x.Args .none), (.int .u64 x.Imm)]
def eLTOp (x : List (TOp)) : List AV := [(AV.list 6 eTOp (default : TOp) x .none)]
structure TEnd where
  Kind : Int
  Arg : Int
  To : List (Int)
  deriving Inhabited, DecidableEq
def eTEnd (x : TEnd) : List AV := [(.int .i64 x.Kind), (.int .i64 x.Arg), (AV.list 1 eI64 (0 : Int) x.To .none)]
structure TBlock where
  Phis : List (TPhi)
  Ops : List (TOp)
  End : TEnd
  deriving Inhabited, DecidableEq
def eTBlock (x : TBlock) : List AV := [(AV.list 4 eTPhi (default : TPhi) x.Phis .none), (AV.list 6 eTOp (default : TOp) x.Ops .none), (.int .i64 x.End.Kind), (.int .i64 x.End.Arg), (AV.list 1 eI64 (0 : Int) x.End.To .none)]
def eLTBlock (x : List (TBlock)) : List AV := [(AV.list 5 eTBlock (default : TBlock) x .none)]
structure TFunc where
  Params : List (Int)
  Ret : Int
  Blocks : List (TBlock)
  deriving Inhabited, DecidableEq
def eTFunc (x : TFunc) : List AV := [(AV.list 1 eI64 (0 : Int) x.Params .none), (.int .i64 x.Ret), (AV.list 5 eTBlock (default : TBlock) x.Blocks .none)]
def eU8 (x : Int) : List AV := [(.int .u8 x)]
def eLU8 (x : List (Int)) : List AV := [(AV.list 1 eU8 (0 : Int) x .none)]
structure Treader where
  rest : List (Int)
  code : Int
  deriving Inhabited, DecidableEq
def eTreader (x : Treader) : List AV := [(AV.list 1 eU8 (0 : Int) x.rest .none), (.int .i64 x.code)]
theorem mix : Try.prog.follows .mixedOrders = true := by kernel_rfl
noncomputable def Q2 (a_n : Int) := (((a_n : Int) == (1 : Int)) == false)
noncomputable def Q1 (a_n : Int) (a_last : Int) := ((Q2 a_n) && (((a_last : Int) != (0 : Int)) == true))
noncomputable def m_num_ends (a_n : Int) (a_last : Int) : Option Bool :=
  (some (bif ((a_n : Int) == (1 : Int)) then true else (bif ((a_last : Int) != (0 : Int)) then (bif (decide ((a_n : Int) < (10 : Int))) then true else ((a_last : Int) == (1 : Int))) else false)))
theorem ok_num_ends (a_n : Int) (a_last : Int) (r : Bool) (h : m_num_ends a_n a_last = some r) : Spec Try.prog 64 [(.int .i64 a_n), (.int .u8 a_last)] [] (.bool r) [] := by
  refine spec_of_awp (fn := Try.f64) Try.func64 rfl rfl (by kernel_rfl) (fun Γ hn hΓ => ?_)
  have hn : Γ.n = 19 := hn
  unfold m_num_ends at h
  refine awp_seq ?_
  refine awp_region (rs := []) (cs := []) (live := [0, 1]) (names := []) (st' := (⟨[(0, (.int .i64 a_n)), (1, (.int .u8 a_last))], []⟩ : St)) (obs := []) hn mix (no_hand hΓ) (by kernel_rfl) trivial ?_
  refine then_normal ?_
  refine awp_seq ?_
  refine awp_region (rs := []) (cs := []) (live := [4]) (names := []) (st' := (⟨[(4, (.bool (bif ((a_n : Int) == (1 : Int)) then true else (bif ((a_last : Int) != (0 : Int)) then (bif (decide ((a_n : Int) < (10 : Int))) then true else ((a_last : Int) == (1 : Int))) else false))))], []⟩ : St)) (obs := [((Q2 a_n) = true → (Q2 a_n) = true), ((Q2 a_n) = true → (Q2 a_n) = true), ((Q1 a_n a_last) = true → (Q1 a_n a_last) = true), ((Q1 a_n a_last) = true → (Q1 a_n a_last) = true), (((Q1 a_n a_last) && ((decide ((a_n : Int) < (10 : Int))) == false)) = true → ((Q1 a_n a_last) && ((decide ((a_n : Int) < (10 : Int))) == false)) = true), ((Q1 a_n a_last) = true → (Q1 a_n a_last) = true), ((Q1 a_n a_last) = true → ((decide ((a_n : Int) < (10 : Int))) = false → ((Q1 a_n a_last) && ((decide ((a_n : Int) < (10 : Int))) == false)) = true)), ((Q2 a_n) = true → (Q2 a_n) = true), ((Q2 a_n) = true → (((a_last : Int) != (0 : Int)) = true → (Q1 a_n a_last) = true)), (((a_n : Int) == (1 : Int)) = false → (Q2 a_n) = true)]) hn mix (no_hand hΓ) (by kernel_rfl) ⟨(fun hg => hg), (fun hg => hg), (fun hg => hg), (fun hg => hg), (fun hg => hg), (fun hg => hg), (fun hg => (aF hg)), (fun hg => hg), (fun hg => (aT hg)), gF, trivial⟩ ?_
  refine then_normal ?_
  refine awp_ret ?_
  obtain rfl := Option.some.inj h
  exact ⟨.inl rfl, [], by kernel_rfl⟩

noncomputable def m_num_Get_F1 (a_b : List (Int)) : (Int × Int) → Option (LR (Int × Int) (Int × Int × Int)) :=
  fun (s_ : (Int × Int)) => match s_ with | (i1, i2) => (bif ((i2 : Int) == (10 : Int)) then (some (.done ((0 : Int), (0 : Int), (3 : Int)))) else (bif ((i2 : Int) == (a_b.length : Int)) then (some (.done ((0 : Int), (0 : Int), (2 : Int)))) else (chk (InB i2 a_b.length) (chk (0 ≤ (w64 ((7 : Int) * i2))) (chk (InB (w64 ((w64 (i2 + (1 : Int))) - (1 : Int))) a_b.length) (bif (decide (((128 : Int) : Int) ≤ (a_b.getD ((w64 ((w64 (i2 + (1 : Int))) - (1 : Int)))).toNat (0 : Int)))) then (some (.next ((bitsV .or .u64 i1 (shlV .u64 (wu64 (bitsV .and .u8 (a_b.getD (i2).toNat (0 : Int)) (127 : Int))) (w64 ((7 : Int) * i2)))), (w64 (i2 + (1 : Int)))))) else (chk (InB (w64 ((w64 (i2 + (1 : Int))) - (1 : Int))) a_b.length) ((m_num_ends (w64 (i2 + (1 : Int))) (a_b.getD ((w64 ((w64 (i2 + (1 : Int))) - (1 : Int)))).toNat (0 : Int))).bind fun x12 => (bif (!x12) then (some (.done ((0 : Int), (0 : Int), (3 : Int)))) else (some (.done ((bitsV .or .u64 i1 (shlV .u64 (wu64 (bitsV .and .u8 (a_b.getD (i2).toNat (0 : Int)) (127 : Int))) (w64 ((7 : Int) * i2)))), (w64 (i2 + (1 : Int))), (0 : Int)))))))))))))
noncomputable def Q7 := (w64 ((0 : Int) + (1 : Int)))
noncomputable def Q5 (a_b : List (Int)) : AV := (AV.list 1 eU8 (0 : Int) a_b .none)
noncomputable def Q9 (a_b : List (Int)) := (a_b.getD ((w64 (Q7 - (1 : Int)))).toNat (0 : Int))
noncomputable def Q8 (a_b : List (Int)) (i2 : Int) := (a_b.getD ((w64 ((w64 (i2 + (1 : Int))) - (1 : Int)))).toNat (0 : Int))
noncomputable def Q6 := (⟨[(2, (.int .u64 (0 : Int))), (3, (.int .i64 (0 : Int))), (4, (.int .i64 (3 : Int)))], []⟩ : St)
noncomputable def Q4 (i1 : Int) (a_b : List (Int)) (i2 : Int) : AV := (.int .u64 (bitsV .or .u64 i1 (shlV .u64 (wu64 (bitsV .and .u8 (a_b.getD (i2).toNat (0 : Int)) (127 : Int))) (w64 ((7 : Int) * i2)))))
noncomputable def Q3 (a_b : List (Int)) : AV := (.int .u64 (bitsV .or .u64 (0 : Int) (shlV .u64 (wu64 (bitsV .and .u8 (a_b.getD ((0 : Int)).toNat (0 : Int)) (127 : Int))) (w64 ((7 : Int) * (0 : Int))))))
noncomputable def m_num_Get (a_b : List (Int)) : Option (Int × Int × Int) :=
  ((scopeO (S := (Int × Int)) (X := (Int × Int × Int)) (bif (((0 : Int) : Int) == (10 : Int)) then (some (.done ((0 : Int), (0 : Int), (3 : Int)))) else (bif (((0 : Int) : Int) == (a_b.length : Int)) then (some (.done ((0 : Int), (0 : Int), (2 : Int)))) else (chk (InB (0 : Int) a_b.length) (chk (0 ≤ (w64 ((7 : Int) * (0 : Int)))) (chk (InB (w64 ((w64 ((0 : Int) + (1 : Int))) - (1 : Int))) a_b.length) (bif (decide (((128 : Int) : Int) ≤ (a_b.getD ((w64 ((w64 ((0 : Int) + (1 : Int))) - (1 : Int)))).toNat (0 : Int)))) then (some (.next ((bitsV .or .u64 (0 : Int) (shlV .u64 (wu64 (bitsV .and .u8 (a_b.getD ((0 : Int)).toNat (0 : Int)) (127 : Int))) (w64 ((7 : Int) * (0 : Int))))), (w64 ((0 : Int) + (1 : Int)))))) else (chk (InB (w64 ((w64 ((0 : Int) + (1 : Int))) - (1 : Int))) a_b.length) ((m_num_ends (w64 ((0 : Int) + (1 : Int))) (a_b.getD ((w64 ((w64 ((0 : Int) + (1 : Int))) - (1 : Int)))).toNat (0 : Int))).bind fun x7 => (bif (!x7) then (some (.done ((0 : Int), (0 : Int), (3 : Int)))) else (some (.done ((bitsV .or .u64 (0 : Int) (shlV .u64 (wu64 (bitsV .and .u8 (a_b.getD ((0 : Int)).toNat (0 : Int)) (127 : Int))) (w64 ((7 : Int) * (0 : Int))))), (w64 ((0 : Int) + (1 : Int))), (0 : Int))))))))))))) (m_num_Get_F1 a_b)).bind (fun x13 => ((some x13))))
theorem ok_num_Get (a_b : List (Int)) (r : (Int × Int × Int)) (h : m_num_Get a_b = some r) : Spec Try.prog 63 [(AV.list 1 eU8 (0 : Int) a_b .none)] [] (.tuple [(.int .u64 r.1), (.int .i64 r.2.1), (.int .i64 r.2.2)]) [] := by
  refine spec_of_awp (fn := Try.f63) Try.func63 rfl rfl (by kernel_rfl) (fun Γ hn hΓ => ?_)
  have hn : Γ.n = 42 := hn
  unfold m_num_Get at h
  refine awp_seq ?_
  refine awp_region (rs := []) (cs := []) (live := [0]) (names := []) (st' := (⟨[(0, (Q5 a_b))], []⟩ : St)) (obs := []) hn mix (no_hand hΓ) (by kernel_rfl) trivial ?_
  refine then_normal ?_
  obtain ⟨x13, hx13, h⟩ := bind_some h
  refine awp_scope (S := (Int × Int)) (X := (Int × Int × Int)) (fun (s_ : (Int × Int)) => match s_ with | (i1, i2) => 0) (fun (s_ : (Int × Int)) => match s_ with | (i1, i2) => (⟨[(0, (Q5 a_b)), (5, (.int .u64 i1)), (6, (.int .i64 i2))], []⟩ : St)) _ _ (fun (r_ : (Int × Int × Int)) (e : Exit) (st : St) => e = .ret ∧ retK Try.prog Try.f63.results.toList [] (.tuple [(.int .u64 r_.1), (.int .i64 r_.2.1), (.int .i64 r_.2.2)]) [] e st) ?_ ?_ hx13 ?_
  · clear h hx13
    intro y h
    refine awp_seq ?_
    refine awp_region (rs := []) (cs := []) (live := [0, 5]) (names := []) (st' := (⟨[(0, (Q5 a_b)), (5, (.int .u64 (0 : Int)))], []⟩ : St)) (obs := []) hn mix (no_hand hΓ) (by kernel_rfl) trivial ?_
    refine then_normal ?_
    refine awp_seq ?_
    refine awp_region (rs := []) (cs := []) (live := [0, 5, 6]) (names := []) (st' := (⟨[(0, (Q5 a_b)), (5, (.int .u64 (0 : Int))), (6, (.int .i64 (0 : Int)))], []⟩ : St)) (obs := []) hn mix (no_hand hΓ) (by kernel_rfl) trivial ?_
    refine then_normal ?_
    refine awp_seq ?_
    refine awp_label ?_
    refine then_normal ?_
    refine awp_seq ?_
    refine awp_seq ?_
    refine awp_region (rs := []) (cs := []) (live := [0, 5, 6, 8]) (names := []) (st' := (⟨[(0, (Q5 a_b)), (5, (.int .u64 (0 : Int))), (6, (.int .i64 (0 : Int))), (8, (.bool (((0 : Int) : Int) == (10 : Int))))], []⟩ : St)) (obs := []) hn mix (no_hand hΓ) (by kernel_rfl) trivial ?_
    refine then_normal ?_
    refine awp_cond (((0 : Int) : Int) == (10 : Int)) (by kernel_rfl) (fun hb => ?_) (fun hb => ?_)
    · replace h := cond_t hb h
      clear hb
      refine awp_seq ?_
      refine awp_region (rs := []) (cs := []) (live := [2, 3, 4]) (names := []) (st' := Q6) (obs := []) hn mix (no_hand hΓ) (by kernel_rfl) trivial ?_
      refine then_normal ?_
      refine awp_ret ?_
      refine then_ret ?_
      obtain rfl := Option.some.inj h
      exact ⟨(by intro l hh; cases hh), rfl, ⟨.inl rfl, [], by kernel_rfl⟩⟩
    · replace h := cond_f hb h
      clear hb
      refine awp_skip ?_
      refine then_normal ?_
      refine awp_seq ?_
      refine awp_seq ?_
      refine awp_region (rs := []) (cs := []) (live := [0, 5, 6, 12]) (names := []) (st' := (⟨[(0, (Q5 a_b)), (5, (.int .u64 (0 : Int))), (6, (.int .i64 (0 : Int))), (12, (.bool (((0 : Int) : Int) == (a_b.length : Int))))], []⟩ : St)) (obs := []) hn mix (no_hand hΓ) (by kernel_rfl) trivial ?_
      refine then_normal ?_
      refine awp_cond (((0 : Int) : Int) == (a_b.length : Int)) (by kernel_rfl) (fun hb => ?_) (fun hb => ?_)
      · replace h := cond_t hb h
        clear hb
        refine awp_seq ?_
        refine awp_region (rs := []) (cs := []) (live := [2, 3, 4]) (names := []) (st' := (⟨[(2, (.int .u64 (0 : Int))), (3, (.int .i64 (0 : Int))), (4, (.int .i64 (2 : Int)))], []⟩ : St)) (obs := []) hn mix (no_hand hΓ) (by kernel_rfl) trivial ?_
        refine then_normal ?_
        refine awp_ret ?_
        refine then_ret ?_
        obtain rfl := Option.some.inj h
        exact ⟨(by intro l hh; cases hh), rfl, ⟨.inl rfl, [], by kernel_rfl⟩⟩
      · replace h := cond_f hb h
        clear hb
        refine awp_skip ?_
        refine then_normal ?_
        refine awp_seq ?_
        obtain ⟨hc3, h⟩ := chk_some h
        obtain ⟨hc4, h⟩ := chk_some h
        refine awp_region (rs := []) (cs := []) (live := [0, 5, 6]) (names := []) (st' := (⟨[(0, (Q5 a_b)), (5, (Q3 a_b)), (6, (.int .i64 (0 : Int)))], []⟩ : St)) (obs := [(InB (0 : Int) a_b.length), (0 ≤ (w64 ((7 : Int) * (0 : Int))))]) hn mix (no_hand hΓ) (by kernel_rfl) ⟨hc3, hc4, trivial⟩ ?_
        refine then_normal ?_
        refine awp_seq ?_
        refine awp_region (rs := []) (cs := []) (live := [0, 5, 6]) (names := []) (st' := (⟨[(0, (Q5 a_b)), (5, (Q3 a_b)), (6, (.int .i64 Q7))], []⟩ : St)) (obs := []) hn mix (no_hand hΓ) (by kernel_rfl) trivial ?_
        refine then_normal ?_
        refine awp_seq ?_
        refine awp_seq ?_
        obtain ⟨hc5, h⟩ := chk_some h
        refine awp_region (rs := []) (cs := []) (live := [0, 5, 6, 31]) (names := []) (st' := (⟨[(0, (Q5 a_b)), (5, (Q3 a_b)), (6, (.int .i64 Q7)), (31, (.bool (decide (((128 : Int) : Int) ≤ (Q9 a_b)))))], []⟩ : St)) (obs := [(InB (w64 (Q7 - (1 : Int))) a_b.length)]) hn mix (no_hand hΓ) (by kernel_rfl) ⟨hc5, trivial⟩ ?_
        refine then_normal ?_
        refine awp_cond (decide (((128 : Int) : Int) ≤ (Q9 a_b))) (by kernel_rfl) (fun hb => ?_) (fun hb => ?_)
        · replace h := cond_t hb h
          clear hb
          refine awp_goto ?_
          refine then_goto ?_
          obtain rfl := Option.some.inj h
          exact ⟨rfl, rfl, le_restrict_eq [0, 5, 6] [] (by kernel_rfl) (no_hand hΓ)⟩
        · replace h := cond_f hb h
          clear hb
          refine awp_skip ?_
          refine then_normal ?_
          refine awp_seq ?_
          refine awp_seq ?_
          obtain ⟨hc6, h⟩ := chk_some h
          obtain ⟨x7, hx7, h⟩ := bind_some h
          refine awp_region (rs := [⟨[], [], (.bool x7), []⟩]) (cs := []) (live := [5, 6, 39]) (names := []) (st' := (⟨[(5, (Q3 a_b)), (6, (.int .i64 Q7)), (39, (.bool (!x7)))], []⟩ : St)) (obs := [(InB (w64 (Q7 - (1 : Int))) a_b.length), (Spec Try.prog 64 [(.int .i64 Q7), (.int .u8 (Q9 a_b))] [] (.bool x7) [])]) hn mix (no_hand hΓ) (by kernel_rfl) ⟨hc6, (ok_num_ends Q7 (Q9 a_b) x7 hx7), trivial⟩ ?_
          refine then_normal ?_
          refine awp_cond (!x7) (by kernel_rfl) (fun hb => ?_) (fun hb => ?_)
          · replace h := cond_t hb h
            clear hb
            refine awp_seq ?_
            refine awp_region (rs := []) (cs := []) (live := [2, 3, 4]) (names := []) (st' := Q6) (obs := []) hn mix (no_hand hΓ) (by kernel_rfl) trivial ?_
            refine then_normal ?_
            refine awp_ret ?_
            refine then_ret ?_
            obtain rfl := Option.some.inj h
            exact ⟨(by intro l hh; cases hh), rfl, ⟨.inl rfl, [], by kernel_rfl⟩⟩
          · replace h := cond_f hb h
            clear hb
            refine awp_skip ?_
            refine then_normal ?_
            refine awp_seq ?_
            refine awp_region (rs := []) (cs := []) (live := [2, 3, 4]) (names := []) (st' := (⟨[(2, (Q3 a_b)), (3, (.int .i64 Q7)), (4, (.int .i64 (0 : Int)))], []⟩ : St)) (obs := []) hn mix (no_hand hΓ) (by kernel_rfl) trivial ?_
            refine then_normal ?_
            refine awp_ret ?_
            obtain rfl := Option.some.inj h
            exact ⟨(by intro l hh; cases hh), rfl, ⟨.inl rfl, [], by kernel_rfl⟩⟩
  · clear h hx13
    rintro ⟨i1, i2⟩ y rest hf h
    obtain rfl := Option.some.inj hf
    clear hf
    unfold m_num_Get_F1 at h
    refine awp_seq ?_
    refine awp_skip ?_
    refine then_normal ?_
    refine awp_seq ?_
    refine awp_seq ?_
    refine awp_region (rs := []) (cs := []) (live := [0, 5, 6, 8]) (names := []) (st' := (⟨[(0, (Q5 a_b)), (5, (.int .u64 i1)), (6, (.int .i64 i2)), (8, (.bool ((i2 : Int) == (10 : Int))))], []⟩ : St)) (obs := []) hn mix (no_hand hΓ) (by kernel_rfl) trivial ?_
    refine then_normal ?_
    refine awp_cond ((i2 : Int) == (10 : Int)) (by kernel_rfl) (fun hb => ?_) (fun hb => ?_)
    · replace h := cond_t hb h
      clear hb
      refine awp_seq ?_
      refine awp_region (rs := []) (cs := []) (live := [2, 3, 4]) (names := []) (st' := Q6) (obs := []) hn mix (no_hand hΓ) (by kernel_rfl) trivial ?_
      refine then_normal ?_
      refine awp_ret ?_
      refine then_ret ?_
      obtain rfl := Option.some.inj h
      exact ⟨(by intro l hh; cases hh), rfl, ⟨.inl rfl, [], by kernel_rfl⟩⟩
    · replace h := cond_f hb h
      clear hb
      refine awp_skip ?_
      refine then_normal ?_
      refine awp_seq ?_
      refine awp_seq ?_
      refine awp_region (rs := []) (cs := []) (live := [0, 5, 6, 12]) (names := []) (st' := (⟨[(0, (Q5 a_b)), (5, (.int .u64 i1)), (6, (.int .i64 i2)), (12, (.bool ((i2 : Int) == (a_b.length : Int))))], []⟩ : St)) (obs := []) hn mix (no_hand hΓ) (by kernel_rfl) trivial ?_
      refine then_normal ?_
      refine awp_cond ((i2 : Int) == (a_b.length : Int)) (by kernel_rfl) (fun hb => ?_) (fun hb => ?_)
      · replace h := cond_t hb h
        clear hb
        refine awp_seq ?_
        refine awp_region (rs := []) (cs := []) (live := [2, 3, 4]) (names := []) (st' := (⟨[(2, (.int .u64 (0 : Int))), (3, (.int .i64 (0 : Int))), (4, (.int .i64 (2 : Int)))], []⟩ : St)) (obs := []) hn mix (no_hand hΓ) (by kernel_rfl) trivial ?_
        refine then_normal ?_
        refine awp_ret ?_
        refine then_ret ?_
        obtain rfl := Option.some.inj h
        exact ⟨(by intro l hh; cases hh), rfl, ⟨.inl rfl, [], by kernel_rfl⟩⟩
      · replace h := cond_f hb h
        clear hb
        refine awp_skip ?_
        refine then_normal ?_
        refine awp_seq ?_
        obtain ⟨hc8, h⟩ := chk_some h
        obtain ⟨hc9, h⟩ := chk_some h
        refine awp_region (rs := []) (cs := []) (live := [0, 5, 6]) (names := []) (st' := (⟨[(0, (Q5 a_b)), (5, (Q4 i1 a_b i2)), (6, (.int .i64 i2))], []⟩ : St)) (obs := [(InB i2 a_b.length), (0 ≤ (w64 ((7 : Int) * i2)))]) hn mix (no_hand hΓ) (by kernel_rfl) ⟨hc8, hc9, trivial⟩ ?_
        refine then_normal ?_
        refine awp_seq ?_
        refine awp_region (rs := []) (cs := []) (live := [0, 5, 6]) (names := []) (st' := (⟨[(0, (Q5 a_b)), (5, (Q4 i1 a_b i2)), (6, (.int .i64 (w64 (i2 + (1 : Int)))))], []⟩ : St)) (obs := []) hn mix (no_hand hΓ) (by kernel_rfl) trivial ?_
        refine then_normal ?_
        refine awp_seq ?_
        refine awp_seq ?_
        obtain ⟨hc10, h⟩ := chk_some h
        refine awp_region (rs := []) (cs := []) (live := [0, 5, 6, 31]) (names := []) (st' := (⟨[(0, (Q5 a_b)), (5, (Q4 i1 a_b i2)), (6, (.int .i64 (w64 (i2 + (1 : Int))))), (31, (.bool (decide (((128 : Int) : Int) ≤ (Q8 a_b i2)))))], []⟩ : St)) (obs := [(InB (w64 ((w64 (i2 + (1 : Int))) - (1 : Int))) a_b.length)]) hn mix (no_hand hΓ) (by kernel_rfl) ⟨hc10, trivial⟩ ?_
        refine then_normal ?_
        refine awp_cond (decide (((128 : Int) : Int) ≤ (Q8 a_b i2))) (by kernel_rfl) (fun hb => ?_) (fun hb => ?_)
        · replace h := cond_t hb h
          clear hb
          refine awp_goto ?_
          refine then_goto ?_
          obtain rfl := Option.some.inj h
          exact ⟨rfl, rfl, le_restrict_eq [0, 5, 6] [] (by kernel_rfl) (no_hand hΓ)⟩
        · replace h := cond_f hb h
          clear hb
          refine awp_skip ?_
          refine then_normal ?_
          refine awp_seq ?_
          refine awp_seq ?_
          obtain ⟨hc11, h⟩ := chk_some h
          obtain ⟨x12, hx12, h⟩ := bind_some h
          refine awp_region (rs := [⟨[], [], (.bool x12), []⟩]) (cs := []) (live := [5, 6, 39]) (names := []) (st' := (⟨[(5, (Q4 i1 a_b i2)), (6, (.int .i64 (w64 (i2 + (1 : Int))))), (39, (.bool (!x12)))], []⟩ : St)) (obs := [(InB (w64 ((w64 (i2 + (1 : Int))) - (1 : Int))) a_b.length), (Spec Try.prog 64 [(.int .i64 (w64 (i2 + (1 : Int)))), (.int .u8 (Q8 a_b i2))] [] (.bool x12) [])]) hn mix (no_hand hΓ) (by kernel_rfl) ⟨hc11, (ok_num_ends (w64 (i2 + (1 : Int))) (Q8 a_b i2) x12 hx12), trivial⟩ ?_
          refine then_normal ?_
          refine awp_cond (!x12) (by kernel_rfl) (fun hb => ?_) (fun hb => ?_)
          · replace h := cond_t hb h
            clear hb
            refine awp_seq ?_
            refine awp_region (rs := []) (cs := []) (live := [2, 3, 4]) (names := []) (st' := Q6) (obs := []) hn mix (no_hand hΓ) (by kernel_rfl) trivial ?_
            refine then_normal ?_
            refine awp_ret ?_
            refine then_ret ?_
            obtain rfl := Option.some.inj h
            exact ⟨(by intro l hh; cases hh), rfl, ⟨.inl rfl, [], by kernel_rfl⟩⟩
          · replace h := cond_f hb h
            clear hb
            refine awp_skip ?_
            refine then_normal ?_
            refine awp_seq ?_
            refine awp_region (rs := []) (cs := []) (live := [2, 3, 4]) (names := []) (st' := (⟨[(2, (Q4 i1 a_b i2)), (3, (.int .i64 (w64 (i2 + (1 : Int))))), (4, (.int .i64 (0 : Int)))], []⟩ : St)) (obs := []) hn mix (no_hand hΓ) (by kernel_rfl) trivial ?_
            refine then_normal ?_
            refine awp_ret ?_
            obtain rfl := Option.some.inj h
            exact ⟨(by intro l hh; cases hh), rfl, ⟨.inl rfl, [], by kernel_rfl⟩⟩
  · clear hx13
    rintro e st' ⟨rfl, hk⟩
    obtain rfl := Option.some.inj h
    exact hk

noncomputable def Q11 (a_w0 : Treader) (x1 : (Int × Int × Int)) : AV := (AV.list 1 eU8 (0 : Int) (a_w0.rest.drop (x1.2.1).toNat) .none)
noncomputable def Q10 (a_w0 : Treader) : List AV := [(AV.list 1 eU8 (0 : Int) a_w0.rest .none), (.int .i64 a_w0.code)]
noncomputable def m_code_reader_anyNumber (a_w0 : Treader) : Option (Int × Treader) :=
  (bif ((a_w0.code : Int) != (0 : Int)) then (some ((0 : Int), a_w0)) else ((m_num_Get a_w0.rest).bind fun x1 => (chk (0 ≤ x1.2.1 ∧ x1.2.1 ≤ (a_w0.rest.length : Int)) (some (x1.1, (⟨(a_w0.rest.drop (x1.2.1).toNat), x1.2.2⟩ : Treader))))))
theorem ok_code_reader_anyNumber (a_w0 : Treader) (r : (Int × Treader)) (h : m_code_reader_anyNumber a_w0 = some r) : Spec Try.prog 61 [(.ptr 30000 0)] [(30000, .row [(AV.list 1 eU8 (0 : Int) a_w0.rest .none), (.int .i64 a_w0.code)])] (.int .u64 r.1) [(30000, .row [(AV.list 1 eU8 (0 : Int) r.2.rest .none), (.int .i64 r.2.code)])] := by
  refine spec_of_awp (fn := Try.f61) Try.func61 rfl rfl (by kernel_rfl) (fun Γ hn hΓ => ?_)
  have hn : Γ.n = 34 := hn
  unfold m_code_reader_anyNumber at h
  refine awp_seq ?_
  refine awp_region (rs := []) (cs := []) (live := [0]) (names := [30000]) (st' := (⟨[(0, (.ptr 30000 0))], [(30000, .row (Q10 a_w0))]⟩ : St)) (obs := []) hn mix (hand_in hΓ rfl) (by kernel_rfl) trivial ?_
  refine then_normal ?_
  refine awp_seq ?_
  refine awp_seq ?_
  refine awp_region (rs := []) (cs := []) (live := [0, 10]) (names := [30000]) (st' := (⟨[(0, (.ptr 30000 0)), (10, (.bool ((a_w0.code : Int) != (0 : Int))))], [(30000, .row (Q10 a_w0))]⟩ : St)) (obs := [(1 < List.length (α := AV) (Q10 a_w0))]) hn mix (hand_in hΓ rfl) (by kernel_rfl) ⟨(nl rfl), trivial⟩ ?_
  refine then_normal ?_
  refine awp_cond ((a_w0.code : Int) != (0 : Int)) (by kernel_rfl) (fun hb => ?_) (fun hb => ?_)
  · replace h := cond_t hb h
    clear hb
    refine awp_seq ?_
    refine awp_region (rs := []) (cs := []) (live := [2]) (names := [30000]) (st' := (⟨[(2, (.int .u64 (0 : Int)))], [(30000, .row (Q10 a_w0))]⟩ : St)) (obs := []) hn mix (hand_in hΓ rfl) (by kernel_rfl) trivial ?_
    refine then_normal ?_
    refine awp_ret ?_
    refine then_ret ?_
    obtain rfl := Option.some.inj h
    exact ⟨.inl rfl, [(30000, 30000)], by kernel_rfl⟩
  · replace h := cond_f hb h
    clear hb
    refine awp_skip ?_
    refine then_normal ?_
    refine awp_seq ?_
    obtain ⟨x1, hx1, h⟩ := bind_some h
    refine awp_region (rs := [⟨[], [], (.tuple [(.int .u64 x1.1), (.int .i64 x1.2.1), (.int .i64 x1.2.2)]), []⟩]) (cs := []) (live := [0, 3, 4, 5]) (names := [30000]) (st' := (⟨[(0, (.ptr 30000 0)), (3, (.int .u64 x1.1)), (4, (.int .i64 x1.2.1)), (5, (.int .i64 x1.2.2))], [(30000, .row (Q10 a_w0))]⟩ : St)) (obs := [(0 < List.length (α := AV) (Q10 a_w0)), (Spec Try.prog 63 [(AV.list 1 eU8 (0 : Int) a_w0.rest .none)] [] (.tuple [(.int .u64 x1.1), (.int .i64 x1.2.1), (.int .i64 x1.2.2)]) [])]) hn mix (hand_in hΓ rfl) (by kernel_rfl) ⟨(nl rfl), (ok_num_Get a_w0.rest x1 hx1), trivial⟩ ?_
    refine then_normal ?_
    refine awp_seq ?_
    obtain ⟨hc2, h⟩ := chk_some h
    refine awp_region (rs := []) (cs := [(27, (Q11 a_w0 x1))]) (live := [3]) (names := [30000]) (st' := (⟨[(3, (.int .u64 x1.1))], [(30000, .row [(Q11 a_w0 x1), (.int .i64 x1.2.2)])]⟩ : St)) (obs := [(0 < List.length (α := AV) (Q10 a_w0)), (0 ≤ x1.2.1 ∧ x1.2.1 ≤ (a_w0.rest.length : Int)), (AVle (.slice 1 (a_w0.rest.length - (x1.2.1).toNat) (fun i => eU8 (a_w0.rest.getD ((x1.2.1).toNat + i) (0 : Int))) .none) (Q11 a_w0 x1)), (0 + List.length (α := AV) [(Q11 a_w0 x1)] ≤ List.length (α := AV) (Q10 a_w0)), (1 + List.length (α := AV) [(.int .i64 x1.2.2)] ≤ List.length (α := AV) [(Q11 a_w0 x1), (.int .i64 a_w0.code)])]) hn mix (hand_in hΓ rfl) (by kernel_rfl) ⟨(nl rfl), hc2, av_drop, (nl rfl), (nl rfl), trivial⟩ ?_
    refine then_normal ?_
    refine awp_seq ?_
    refine awp_region (rs := []) (cs := []) (live := [2]) (names := [30000]) (st' := (⟨[(2, (.int .u64 x1.1))], [(30000, .row [(Q11 a_w0 x1), (.int .i64 x1.2.2)])]⟩ : St)) (obs := []) hn mix (hand_in hΓ rfl) (by kernel_rfl) trivial ?_
    refine then_normal ?_
    refine awp_ret ?_
    obtain rfl := Option.some.inj h
    exact ⟨.inl rfl, [(30000, 30000)], by kernel_rfl⟩

noncomputable def Q12 (x1 : (Int × Treader)) : List AV := [(AV.list 1 eU8 (0 : Int) x1.2.rest .none), (.int .i64 x1.2.code)]
noncomputable def m_code_reader_within (a_least : Int) (a_most : Int) (a_w0 : Treader) : Option (Int × Treader) :=
  ((m_code_reader_anyNumber a_w0).bind fun x1 => (bif ((x1.2.code : Int) != (0 : Int)) then (some ((0 : Int), x1.2)) else (bif (bif (decide ((x1.1 : Int) < a_least)) then true else (decide ((a_most : Int) < x1.1))) then (some ((0 : Int), (⟨x1.2.rest, (4 : Int)⟩ : Treader))) else (some ((w64 x1.1), x1.2)))))
theorem ok_code_reader_within (a_least : Int) (a_most : Int) (a_w0 : Treader) (r : (Int × Treader)) (h : m_code_reader_within a_least a_most a_w0 = some r) : Spec Try.prog 55 [(.ptr 30000 0), (.int .u64 a_least), (.int .u64 a_most)] [(30000, .row [(AV.list 1 eU8 (0 : Int) a_w0.rest .none), (.int .i64 a_w0.code)])] (.int .i64 r.1) [(30000, .row [(AV.list 1 eU8 (0 : Int) r.2.rest .none), (.int .i64 r.2.code)])] := by
  refine spec_of_awp (fn := Try.f55) Try.func55 rfl rfl (by kernel_rfl) (fun Γ hn hΓ => ?_)
  have hn : Γ.n = 28 := hn
  unfold m_code_reader_within at h
  refine awp_seq ?_
  refine awp_region (rs := []) (cs := []) (live := [0, 1, 2]) (names := [30000]) (st' := (⟨[(0, (.ptr 30000 0)), (1, (.int .u64 a_least)), (2, (.int .u64 a_most))], [(30000, .row [(AV.list 1 eU8 (0 : Int) a_w0.rest .none), (.int .i64 a_w0.code)])]⟩ : St)) (obs := []) hn mix (hand_in hΓ rfl) (by kernel_rfl) trivial ?_
  refine then_normal ?_
  refine awp_seq ?_
  obtain ⟨x1, hx1, h⟩ := bind_some h
  refine awp_region (rs := [⟨[(30000, 30000)], [], (.int .u64 x1.1), [(30000, .row (Q12 x1))]⟩]) (cs := []) (live := [0, 1, 2, 7]) (names := [30000]) (st' := (⟨[(0, (.ptr 30000 0)), (1, (.int .u64 a_least)), (2, (.int .u64 a_most)), (7, (.int .u64 x1.1))], [(30000, .row (Q12 x1))]⟩ : St)) (obs := [(Spec Try.prog 61 [(.ptr 30000 0)] [(30000, .row [(AV.list 1 eU8 (0 : Int) a_w0.rest .none), (.int .i64 a_w0.code)])] (.int .u64 x1.1) [(30000, .row (Q12 x1))])]) hn mix (hand_in hΓ rfl) (by kernel_rfl) ⟨(ok_code_reader_anyNumber a_w0 x1 hx1), trivial⟩ ?_
  refine then_normal ?_
  refine awp_seq ?_
  refine awp_seq ?_
  refine awp_region (rs := []) (cs := []) (live := [0, 1, 2, 7, 14]) (names := [30000]) (st' := (⟨[(0, (.ptr 30000 0)), (1, (.int .u64 a_least)), (2, (.int .u64 a_most)), (7, (.int .u64 x1.1)), (14, (.bool ((x1.2.code : Int) != (0 : Int))))], [(30000, .row (Q12 x1))]⟩ : St)) (obs := [(1 < List.length (α := AV) (Q12 x1))]) hn mix (hand_in hΓ rfl) (by kernel_rfl) ⟨(nl rfl), trivial⟩ ?_
  refine then_normal ?_
  refine awp_cond ((x1.2.code : Int) != (0 : Int)) (by kernel_rfl) (fun hb => ?_) (fun hb => ?_)
  · replace h := cond_t hb h
    clear hb
    refine awp_seq ?_
    refine awp_region (rs := []) (cs := []) (live := [6]) (names := [30000]) (st' := (⟨[(6, (.int .i64 (0 : Int)))], [(30000, .row (Q12 x1))]⟩ : St)) (obs := []) hn mix (hand_in hΓ rfl) (by kernel_rfl) trivial ?_
    refine then_normal ?_
    refine awp_ret ?_
    refine then_ret ?_
    obtain rfl := Option.some.inj h
    exact ⟨.inl rfl, [(30000, 30000)], by kernel_rfl⟩
  · replace h := cond_f hb h
    clear hb
    refine awp_skip ?_
    refine then_normal ?_
    refine awp_seq ?_
    refine awp_seq ?_
    refine awp_region (rs := []) (cs := []) (live := [0, 7, 22]) (names := [30000]) (st' := (⟨[(0, (.ptr 30000 0)), (7, (.int .u64 x1.1)), (22, (.bool (bif (decide ((x1.1 : Int) < a_least)) then true else (decide ((a_most : Int) < x1.1)))))], [(30000, .row (Q12 x1))]⟩ : St)) (obs := [(((decide ((x1.1 : Int) < a_least)) == false) = true → ((decide ((x1.1 : Int) < a_least)) == false) = true), (((decide ((x1.1 : Int) < a_least)) == false) = true → ((decide ((x1.1 : Int) < a_least)) == false) = true), ((decide ((x1.1 : Int) < a_least)) = false → ((decide ((x1.1 : Int) < a_least)) == false) = true)]) hn mix (hand_in hΓ rfl) (by kernel_rfl) ⟨(fun hg => hg), (fun hg => hg), gF, trivial⟩ ?_
    refine then_normal ?_
    refine awp_cond (bif (decide ((x1.1 : Int) < a_least)) then true else (decide ((a_most : Int) < x1.1))) (by kernel_rfl) (fun hb => ?_) (fun hb => ?_)
    · replace h := cond_t hb h
      clear hb
      refine awp_seq ?_
      refine awp_region (rs := []) (cs := []) (live := []) (names := [30000]) (st' := (⟨[], [(30000, .row [(AV.list 1 eU8 (0 : Int) x1.2.rest .none), (.int .i64 (4 : Int))])]⟩ : St)) (obs := [(1 + List.length (α := AV) [(.int .i64 (4 : Int))] ≤ List.length (α := AV) (Q12 x1))]) hn mix (hand_in hΓ rfl) (by kernel_rfl) ⟨(nl rfl), trivial⟩ ?_
      refine then_normal ?_
      refine awp_seq ?_
      refine awp_region (rs := []) (cs := []) (live := [6]) (names := [30000]) (st' := (⟨[(6, (.int .i64 (0 : Int)))], [(30000, .row [(AV.list 1 eU8 (0 : Int) x1.2.rest .none), (.int .i64 (4 : Int))])]⟩ : St)) (obs := []) hn mix (hand_in hΓ rfl) (by kernel_rfl) trivial ?_
      refine then_normal ?_
      refine awp_ret ?_
      refine then_ret ?_
      obtain rfl := Option.some.inj h
      exact ⟨.inl rfl, [(30000, 30000)], by kernel_rfl⟩
    · replace h := cond_f hb h
      clear hb
      refine awp_skip ?_
      refine then_normal ?_
      refine awp_seq ?_
      refine awp_region (rs := []) (cs := []) (live := [6]) (names := [30000]) (st' := (⟨[(6, (.int .i64 (w64 x1.1)))], [(30000, .row (Q12 x1))]⟩ : St)) (obs := []) hn mix (hand_in hΓ rfl) (by kernel_rfl) trivial ?_
      refine then_normal ?_
      refine awp_ret ?_
      obtain rfl := Option.some.inj h
      exact ⟨.inl rfl, [(30000, 30000)], by kernel_rfl⟩

noncomputable def Q13 (x1 : (Int × Treader)) : List (Nat × Own) := [(30000, .row [(AV.list 1 eU8 (0 : Int) x1.2.rest .none), (.int .i64 x1.2.code)])]
noncomputable def m_code_reader_number (a_w0 : Treader) : Option (Int × Treader) :=
  ((m_code_reader_within (0 : Int) (2147483647 : Int) a_w0).bind fun x1 => (some (x1.1, x1.2)))
theorem ok_code_reader_number (a_w0 : Treader) (r : (Int × Treader)) (h : m_code_reader_number a_w0 = some r) : Spec Try.prog 46 [(.ptr 30000 0)] [(30000, .row [(AV.list 1 eU8 (0 : Int) a_w0.rest .none), (.int .i64 a_w0.code)])] (.int .i64 r.1) [(30000, .row [(AV.list 1 eU8 (0 : Int) r.2.rest .none), (.int .i64 r.2.code)])] := by
  refine spec_of_awp (fn := Try.f46) Try.func46 rfl rfl (by kernel_rfl) (fun Γ hn hΓ => ?_)
  have hn : Γ.n = 5 := hn
  unfold m_code_reader_number at h
  refine awp_seq ?_
  refine awp_region (rs := []) (cs := []) (live := [0]) (names := [30000]) (st' := (⟨[(0, (.ptr 30000 0))], [(30000, .row [(AV.list 1 eU8 (0 : Int) a_w0.rest .none), (.int .i64 a_w0.code)])]⟩ : St)) (obs := []) hn mix (hand_in hΓ rfl) (by kernel_rfl) trivial ?_
  refine then_normal ?_
  refine awp_seq ?_
  obtain ⟨x1, hx1, h⟩ := bind_some h
  refine awp_region (rs := [⟨[(30000, 30000)], [], (.int .i64 x1.1), (Q13 x1)⟩]) (cs := []) (live := [2]) (names := [30000]) (st' := (⟨[(2, (.int .i64 x1.1))], (Q13 x1)⟩ : St)) (obs := [(Spec Try.prog 55 [(.ptr 30000 0), (.int .u64 (0 : Int)), (.int .u64 (2147483647 : Int))] [(30000, .row [(AV.list 1 eU8 (0 : Int) a_w0.rest .none), (.int .i64 a_w0.code)])] (.int .i64 x1.1) (Q13 x1))]) hn mix (hand_in hΓ rfl) (by kernel_rfl) ⟨(ok_code_reader_within (0 : Int) (2147483647 : Int) a_w0 x1 hx1), trivial⟩ ?_
  refine then_normal ?_
  refine awp_ret ?_
  obtain rfl := Option.some.inj h
  exact ⟨.inl rfl, [(30000, 30000)], by kernel_rfl⟩

noncomputable def m_code_many_int_L1 (x3 : (Int × Treader)) : (List (Int) × Int × List (Int) × Int) → Option (LR (List (Int) × Int × List (Int) × Int) ((List (Int) × List (Int) × Int) ⊕ (List (Int) × Int))) :=
  fun ((l4, i5, l6, i7) : (List (Int) × Int × List (Int) × Int)) => (bif (decide ((i5 : Int) < x3.1)) then ((m_code_reader_number (⟨l6, i7⟩ : Treader)).bind fun x13 => (bif ((x13.2.code : Int) != (0 : Int)) then (some (.done (.inr (x13.2.rest, x13.2.code)))) else (chk (l4.length + ([x13.1] : List (Int)).length ≤ room) (some (.next ((l4 ++ ([x13.1] : List (Int))), (w64 (i5 + (1 : Int))), x13.2.rest, x13.2.code)))))) else (some (.done (.inl (l4, l6, i7)))))
noncomputable def m_code_many_int_F2  : (List (Int) × Int) → Option (LR (List (Int) × Int) (List (Int) × Treader)) :=
  fun (s_ : (List (Int) × Int)) => match s_ with | (l1, i2) => (some (.done (([] : List Int), (⟨l1, i2⟩ : Treader))))
noncomputable def Q23 (x13 : (Int × Treader)) := ([x13.1] : List (Int))
noncomputable def Q21 : AV := (.clo 46 [(.ptr 30000 0)] [])
noncomputable def Q14 : AV := (AV.list 1 eI64 (0 : Int) ([] : List Int) .exact)
noncomputable def Q20 (l1 : List (Int)) (i2 : Int) : List AV := [(AV.list 1 eU8 (0 : Int) l1 .none), (.int .i64 i2)]
noncomputable def Q17 (x3 : (Int × Treader)) : List AV := [(AV.list 1 eU8 (0 : Int) x3.2.rest .none), (.int .i64 x3.2.code)]
noncomputable def Q15 (x13 : (Int × Treader)) : List AV := [(AV.list 1 eU8 (0 : Int) x13.2.rest .none), (.int .i64 x13.2.code)]
noncomputable def Q19 (l4 : List (Int)) (x13 : (Int × Treader)) : AV := (AV.list 1 eI64 (0 : Int) (l4 ++ (Q23 x13)) (.own 5009))
noncomputable def Q18 (a_w0 : Treader) : List (Nat × Own) := [(30000, .row [(AV.list 1 eU8 (0 : Int) a_w0.rest .none), (.int .i64 a_w0.code)])]
noncomputable def Q24 (x3 : (Int × Treader)) := (⟨[(0, (.ptr 30000 0)), (3, Q21), (9, Q14), (14, (.int .i64 x3.1)), (15, (.int .i64 (0 : Int)))], [(30000, .row (Q17 x3))]⟩ : St)
noncomputable def Q22 (l1 : List (Int)) (i2 : Int) := (⟨[(8, (AV.list 1 eI64 (0 : Int) ([] : List Int) (.own 6008)))], [(6008, .tok 1 3 (([] : List Int).length)), (30000, .row (Q20 l1 i2))]⟩ : St)
noncomputable def Q16 (l4 : List (Int)) (x3 : (Int × Treader)) (i5 : Int) (l6 : List (Int)) (i7 : Int) := (⟨[(0, (.ptr 30000 0)), (3, Q21), (9, (AV.list 1 eI64 (0 : Int) l4 (.own 5009))), (14, (.int .i64 x3.1)), (15, (.int .i64 i5))], [(5009, .tok 1 3 l4.length), (30000, .row [(AV.list 1 eU8 (0 : Int) l6 .none), (.int .i64 i7)])]⟩ : St)
noncomputable def m_code_many_int (a_least : Int) (a_most : Int) (a_w0 : Treader) : Option (List (Int) × Treader) :=
  ((scopeO (S := (List (Int) × Int)) (X := (List (Int) × Treader)) ((m_code_reader_within a_least a_most a_w0).bind fun x3 => ((loopO (S := (List (Int) × Int × List (Int) × Int)) (X := ((List (Int) × List (Int) × Int) ⊕ (List (Int) × Int))) (m_code_many_int_L1 x3) (([] : List Int), (0 : Int), x3.2.rest, x3.2.code)).bind (fun x15 => (match x15 with | (.inl (l8, l9, i10)) => (some (.done (l8, (⟨l9, i10⟩ : Treader)))) | (.inr (l11, i12)) => (some (.next (l11, i12))))))) m_code_many_int_F2).bind (fun x18 => ((some x18))))
theorem ok_code_many_int (a_least : Int) (a_most : Int) (a_w0 : Treader) (r : (List (Int) × Treader)) (h : m_code_many_int a_least a_most a_w0 = some r) : Spec Try.prog 45 [(.ptr 30000 0), (.int .u64 a_least), (.int .u64 a_most), (.clo 46 [(.ptr 30000 0)] [])] [(30000, .row [(AV.list 1 eU8 (0 : Int) a_w0.rest .none), (.int .i64 a_w0.code)])] (AV.list 1 eI64 (0 : Int) r.1 (.own 20000)) [(30000, .row [(AV.list 1 eU8 (0 : Int) r.2.rest .none), (.int .i64 r.2.code)]), (20000, .tok 1 3 r.1.length)] := by
  refine spec_of_awp (fn := Try.f45) Try.func45 rfl rfl (by kernel_rfl) (fun Γ hn hΓ => ?_)
  have hn : Γ.n = 30 := hn
  unfold m_code_many_int at h
  refine awp_seq ?_
  refine awp_region (rs := []) (cs := [(8, Q14)]) (live := [0, 1, 2, 3]) (names := [30000]) (st' := (⟨[(0, (.ptr 30000 0)), (1, (.int .u64 a_least)), (2, (.int .u64 a_most)), (3, Q21)], (Q18 a_w0)⟩ : St)) (obs := [(AVle (.slice 0 0 (fun _ => []) .exact) Q14)]) hn mix (hand_in hΓ rfl) (by kernel_rfl) ⟨av_nil, trivial⟩ ?_
  refine then_normal ?_
  obtain ⟨x18, hx18, h⟩ := bind_some h
  refine awp_scope (S := (List (Int) × Int)) (X := (List (Int) × Treader)) (fun (s_ : (List (Int) × Int)) => match s_ with | (l1, i2) => 0) (fun (s_ : (List (Int) × Int)) => match s_ with | (l1, i2) => (⟨[], [(30000, .row (Q20 l1 i2))]⟩ : St)) _ _ (fun (r_ : (List (Int) × Treader)) (e : Exit) (st : St) => e = .ret ∧ retK Try.prog Try.f45.results.toList (Q18 a_w0) (AV.list 1 eI64 (0 : Int) r_.1 (.own 20000)) [(30000, .row [(AV.list 1 eU8 (0 : Int) r_.2.rest .none), (.int .i64 r_.2.code)]), (20000, .tok 1 3 r_.1.length)] e st) ?_ ?_ hx18 ?_
  · clear h hx18
    intro y h
    refine awp_seq ?_
    refine awp_region (rs := []) (cs := [(9, Q14)]) (live := [0, 1, 2, 3, 9]) (names := [30000]) (st' := (⟨[(0, (.ptr 30000 0)), (1, (.int .u64 a_least)), (2, (.int .u64 a_most)), (3, Q21), (9, Q14)], (Q18 a_w0)⟩ : St)) (obs := [(AVle (.slice 0 0 (fun _ => []) .exact) Q14)]) hn mix (hand_in hΓ rfl) (by kernel_rfl) ⟨av_nil, trivial⟩ ?_
    refine then_normal ?_
    refine awp_seq ?_
    refine awp_seq ?_
    obtain ⟨x3, hx3, h⟩ := bind_some h
    refine awp_region (rs := [⟨[(30000, 30000)], [], (.int .i64 x3.1), [(30000, .row (Q17 x3))]⟩]) (cs := []) (live := [0, 3, 9, 14, 15]) (names := [30000]) (st' := (Q24 x3)) (obs := [(Spec Try.prog 55 [(.ptr 30000 0), (.int .u64 a_least), (.int .u64 a_most)] (Q18 a_w0) (.int .i64 x3.1) [(30000, .row (Q17 x3))])]) hn mix (hand_in hΓ rfl) (by kernel_rfl) ⟨(ok_code_reader_within a_least a_most a_w0 x3 hx3), trivial⟩ ?_
    refine then_normal ?_
    refine awp_block ?_
    refine awp_le (st' := (fun ((l4, i5, l6, i7) : (List (Int) × Int × List (Int) × Int)) => (Q16 l4 x3 i5 l6 i7)) (([] : List Int), (0 : Int), x3.2.rest, x3.2.code)) (Le.trans (le_restrict_eq (st' := (Q24 x3)) [0, 3, 9, 14, 15] [30000] (by kernel_rfl) (hand_in hΓ rfl)) (Le.trans (le_tag (t := 9) (nm := 5009) (sz' := 1) (fun i => eI64 (([] : List Int).getD i (0 : Int))) 3 rfl rfl (.inl ⟨rfl, rfl⟩)) (le_restrict_eq (st' := (⟨[(0, (.ptr 30000 0)), (3, Q21), (9, (AV.list 1 eI64 (0 : Int) ([] : List Int) (.own 5009))), (14, (.int .i64 x3.1)), (15, (.int .i64 (0 : Int)))], [(5009, .tok 1 3 (([] : List Int).length)), (30000, .row (Q17 x3))]⟩ : St)) [0, 3, 9, 14, 15] [5009, 30000] (by kernel_rfl) (hand_in hΓ rfl)))) ?_
    obtain ⟨x15, hx15, h⟩ := bind_some h
    refine awp_loop (fun ((l4, i5, l6, i7) : (List (Int) × Int × List (Int) × Int)) => (Q16 l4 x3 i5 l6 i7)) _ (fun (x_ : ((List (Int) × List (Int) × Int) ⊕ (List (Int) × Int))) (e : Exit) (st : St) => match x_ with | (.inl (l8, l9, i10)) => e = (.exit 0) ∧ Le Γ st (⟨[(9, (AV.list 1 eI64 (0 : Int) l8 (.own 5009)))], [(5009, .tok 1 3 l8.length), (30000, .row [(AV.list 1 eU8 (0 : Int) l9 .none), (.int .i64 i10)])]⟩ : St) | (.inr (l11, i12)) => e = (.goto 0) ∧ Le Γ st (⟨[], [(30000, .row [(AV.list 1 eU8 (0 : Int) l11 .none), (.int .i64 i12)])]⟩ : St)) ?_ hx15 ?_
    · rintro ⟨l4, i5, l6, i7⟩ y h
      unfold m_code_many_int_L1 at h
      refine awp_seq ?_
      refine awp_region (rs := []) (cs := []) (live := [0, 3, 9, 14, 15, 16]) (names := [5009, 30000]) (st' := (⟨[(0, (.ptr 30000 0)), (3, Q21), (9, (AV.list 1 eI64 (0 : Int) l4 (.own 5009))), (14, (.int .i64 x3.1)), (15, (.int .i64 i5)), (16, (.bool (decide ((i5 : Int) < x3.1))))], [(5009, .tok 1 3 l4.length), (30000, .row [(AV.list 1 eU8 (0 : Int) l6 .none), (.int .i64 i7)])]⟩ : St)) (obs := []) hn mix (hand_in hΓ rfl) (by kernel_rfl) trivial ?_
      refine then_normal ?_
      refine awp_seq ?_
      refine awp_cond (decide ((i5 : Int) < x3.1)) (by kernel_rfl) (fun hb => ?_) (fun hb => ?_)
      · replace h := cond_t hb h
        clear hb
        refine awp_skip ?_
        refine then_normal ?_
        refine awp_seq ?_
        refine awp_block ?_
        refine awp_seq ?_
        obtain ⟨x13, hx13, h⟩ := bind_some h
        refine awp_region (rs := [⟨[(30000, 30000)], [], (.int .i64 x13.1), [(30000, .row (Q15 x13))]⟩]) (cs := []) (live := [0, 3, 9, 10, 14, 15]) (names := [5009, 30000]) (st' := (⟨[(0, (.ptr 30000 0)), (3, Q21), (9, (AV.list 1 eI64 (0 : Int) l4 (.own 5009))), (10, (.int .i64 x13.1)), (14, (.int .i64 x3.1)), (15, (.int .i64 i5))], [(5009, .tok 1 3 l4.length), (30000, .row (Q15 x13))]⟩ : St)) (obs := [(Spec Try.prog 46 [(.ptr 30000 0)] [(30000, .row [(AV.list 1 eU8 (0 : Int) l6 .none), (.int .i64 i7)])] (.int .i64 x13.1) [(30000, .row (Q15 x13))])]) hn mix (hand_in hΓ rfl) (by kernel_rfl) ⟨(ok_code_reader_number (⟨l6, i7⟩ : Treader) x13 hx13), trivial⟩ ?_
        refine then_normal ?_
        refine awp_seq ?_
        refine awp_seq ?_
        refine awp_region (rs := []) (cs := []) (live := [0, 3, 9, 10, 14, 15, 23]) (names := [5009, 30000]) (st' := (⟨[(0, (.ptr 30000 0)), (3, Q21), (9, (AV.list 1 eI64 (0 : Int) l4 (.own 5009))), (10, (.int .i64 x13.1)), (14, (.int .i64 x3.1)), (15, (.int .i64 i5)), (23, (.bool ((x13.2.code : Int) != (0 : Int))))], [(5009, .tok 1 3 l4.length), (30000, .row (Q15 x13))]⟩ : St)) (obs := [(1 < List.length (α := AV) (Q15 x13))]) hn mix (hand_in hΓ rfl) (by kernel_rfl) ⟨(nl rfl), trivial⟩ ?_
        refine then_normal ?_
        refine awp_cond ((x13.2.code : Int) != (0 : Int)) (by kernel_rfl) (fun hb => ?_) (fun hb => ?_)
        · replace h := cond_t hb h
          clear hb
          refine awp_goto ?_
          refine then_goto ?_
          refine block_goto ?_
          refine then_goto ?_
          obtain rfl := Option.some.inj h
          exact ⟨(by intro hh; cases hh), rfl, le_restrict_eq [] [30000] (by kernel_rfl) (hand_in hΓ rfl)⟩
        · replace h := cond_f hb h
          clear hb
          refine awp_skip ?_
          refine then_normal ?_
          obtain ⟨hc14, h⟩ := chk_some h
          refine awp_region (rs := []) (cs := [(26, (AV.list 1 eI64 (0 : Int) (Q23 x13) .exact)), (27, (Q19 l4 x13))]) (live := [0, 3, 9, 14, 15]) (names := [5009, 30000]) (st' := (⟨[(0, (.ptr 30000 0)), (3, Q21), (9, (Q19 l4 x13)), (14, (.int .i64 x3.1)), (15, (.int .i64 i5))], [(5009, .tok 1 3 ((l4 ++ (Q23 x13)).length)), (30000, .row (Q15 x13))]⟩ : St)) (obs := [(AVle (.slice 1 1 (fun i => ([[(.int .i64 x13.1)]] : List (List AV)).getD i []) .exact) (AV.list 1 eI64 (0 : Int) (Q23 x13) .exact)), (l4.length = l4.length), (l4.length + (Q23 x13).length ≤ room), (AVle (.slice 1 (l4.length + (Q23 x13).length) (appF l4.length (fun i => eI64 (l4.getD i (0 : Int))) (fun i => eI64 ((Q23 x13).getD i (0 : Int)))) (.own 5009)) (Q19 l4 x13)), (l4.length + (Q23 x13).length = (l4 ++ (Q23 x13)).length)]) hn mix (hand_in hΓ rfl) (by kernel_rfl) ⟨(av_lit rfl (fun i hi => map_get (e := eI64) (d := (0 : Int)) (Q23 x13) i hi)), rfl, hc14, av_app, (len_app _ _), trivial⟩ ?_
          refine block_normal ?_
          refine then_normal ?_
          refine awp_region (rs := []) (cs := []) (live := [0, 3, 9, 14, 15]) (names := [5009, 30000]) (st' := (⟨[(0, (.ptr 30000 0)), (3, Q21), (9, (Q19 l4 x13)), (14, (.int .i64 x3.1)), (15, (.int .i64 (w64 (i5 + (1 : Int)))))], [(5009, .tok 1 3 ((l4 ++ (Q23 x13)).length)), (30000, .row (Q15 x13))]⟩ : St)) (obs := []) hn mix (hand_in hΓ rfl) (by kernel_rfl) trivial ?_
          obtain rfl := Option.some.inj h
          exact ⟨rfl, Le.refl _ _⟩
      · replace h := cond_f hb h
        clear hb
        refine awp_exit ?_
        refine then_exit ?_
        obtain rfl := Option.some.inj h
        exact ⟨(by intro hh; cases hh), rfl, le_restrict_eq [9] [5009, 30000] (by kernel_rfl) (hand_in hΓ rfl)⟩
    · clear hx15
      rcases x15 with ⟨l8, l9, i10⟩ | ⟨l11, i12⟩
      · rintro e st' ⟨rfl, hl16⟩
        refine block_here ?_
        refine then_normal ?_
        refine awp_le hl16 ?_
        refine awp_seq ?_
        refine awp_seq ?_
        refine awp_region (rs := []) (cs := []) (live := [8]) (names := [5009, 30000]) (st' := (⟨[(8, (AV.list 1 eI64 (0 : Int) l8 (.own 5009)))], [(5009, .tok 1 3 l8.length), (30000, .row [(AV.list 1 eU8 (0 : Int) l9 .none), (.int .i64 i10)])]⟩ : St)) (obs := []) hn mix (hand_in hΓ rfl) (by kernel_rfl) trivial ?_
        refine then_normal ?_
        refine awp_ret ?_
        refine then_ret ?_
        obtain rfl := Option.some.inj h
        exact ⟨(by intro l hh; cases hh), rfl, ⟨.inl rfl, [(30000, 30000), (5009, 20000)], by kernel_rfl⟩⟩
      · rintro e st' ⟨rfl, hl17⟩
        refine block_goto ?_
        refine then_goto ?_
        obtain rfl := Option.some.inj h
        exact ⟨rfl, rfl, Le.trans hl17 (Le.refl _ _)⟩
  · clear h hx18
    rintro ⟨l1, i2⟩ y rest hf h
    obtain rfl := Option.some.inj hf
    clear hf
    unfold m_code_many_int_F2 at h
    refine awp_seq ?_
    refine awp_skip ?_
    refine then_normal ?_
    refine awp_seq ?_
    refine awp_region (rs := []) (cs := [(8, Q14)]) (live := [8]) (names := [30000]) (st' := (⟨[(8, Q14)], [(30000, .row (Q20 l1 i2))]⟩ : St)) (obs := [(AVle (.slice 0 0 (fun _ => []) .exact) Q14)]) hn mix (hand_in hΓ rfl) (by kernel_rfl) ⟨av_nil, trivial⟩ ?_
    refine then_normal ?_
    refine awp_le (st' := (Q22 l1 i2)) (Le.trans (le_restrict_eq (st' := (⟨[(8, Q14)], [(30000, .row (Q20 l1 i2))]⟩ : St)) [8] [30000] (by kernel_rfl) (hand_in hΓ rfl)) (Le.trans (le_tag (t := 8) (nm := 6008) (sz' := 1) (fun i => eI64 (([] : List Int).getD i (0 : Int))) 3 rfl rfl (.inl ⟨rfl, rfl⟩)) (le_restrict_eq (st' := (Q22 l1 i2)) [8] [6008, 30000] (by kernel_rfl) (hand_in hΓ rfl)))) ?_
    refine awp_ret ?_
    obtain rfl := Option.some.inj h
    exact ⟨(by intro l hh; cases hh), rfl, ⟨.inl rfl, [(30000, 30000), (6008, 20000)], by kernel_rfl⟩⟩
  · clear hx18
    rintro e st' ⟨rfl, hk⟩
    obtain rfl := Option.some.inj h
    exact hk

noncomputable def Q25 (x1 : (List (Int) × Treader)) : List AV := [(AV.list 1 eU8 (0 : Int) x1.2.rest .none), (.int .i64 x1.2.code)]
noncomputable def m_code_reader_list (a_w0 : Treader) : Option (List (Int) × Treader) :=
  ((m_code_many_int (0 : Int) (64 : Int) a_w0).bind fun x1 => (some (x1.1, x1.2)))
theorem ok_code_reader_list (a_w0 : Treader) (r : (List (Int) × Treader)) (h : m_code_reader_list a_w0 = some r) : Spec Try.prog 62 [(.ptr 30000 0)] [(30000, .row [(AV.list 1 eU8 (0 : Int) a_w0.rest .none), (.int .i64 a_w0.code)])] (AV.list 1 eI64 (0 : Int) r.1 (.own 20000)) [(30000, .row [(AV.list 1 eU8 (0 : Int) r.2.rest .none), (.int .i64 r.2.code)]), (20000, .tok 1 3 r.1.length)] := by
  refine spec_of_awp (fn := Try.f62) Try.func62 rfl rfl (by kernel_rfl) (fun Γ hn hΓ => ?_)
  have hn : Γ.n = 7 := hn
  unfold m_code_reader_list at h
  refine awp_seq ?_
  refine awp_region (rs := []) (cs := [(2, (AV.list 1 eI64 (0 : Int) ([] : List Int) .exact))]) (live := [0]) (names := [30000]) (st' := (⟨[(0, (.ptr 30000 0))], [(30000, .row [(AV.list 1 eU8 (0 : Int) a_w0.rest .none), (.int .i64 a_w0.code)])]⟩ : St)) (obs := [(AVle (.slice 0 0 (fun _ => []) .exact) (AV.list 1 eI64 (0 : Int) ([] : List Int) .exact))]) hn mix (hand_in hΓ rfl) (by kernel_rfl) ⟨av_nil, trivial⟩ ?_
  refine then_normal ?_
  refine awp_seq ?_
  obtain ⟨x1, hx1, h⟩ := bind_some h
  refine awp_region (rs := [⟨[(30000, 30000)], [(20000, 6)], (AV.list 1 eI64 (0 : Int) x1.1 (.own 20000)), [(30000, .row (Q25 x1)), (20000, .tok 1 3 x1.1.length)]⟩]) (cs := []) (live := [2]) (names := [6, 30000]) (st' := (⟨[(2, (AV.list 1 eI64 (0 : Int) x1.1 (.own 6)))], [(6, .tok 1 3 x1.1.length), (30000, .row (Q25 x1))]⟩ : St)) (obs := [(Spec Try.prog 45 [(.ptr 30000 0), (.int .u64 (0 : Int)), (.int .u64 (64 : Int)), (.clo 46 [(.ptr 30000 0)] [])] [(30000, .row [(AV.list 1 eU8 (0 : Int) a_w0.rest .none), (.int .i64 a_w0.code)])] (AV.list 1 eI64 (0 : Int) x1.1 (.own 20000)) [(30000, .row (Q25 x1)), (20000, .tok 1 3 x1.1.length)])]) hn mix (hand_in hΓ rfl) (by kernel_rfl) ⟨(ok_code_many_int (0 : Int) (64 : Int) a_w0 x1 hx1), trivial⟩ ?_
  refine then_normal ?_
  refine awp_ret ?_
  obtain rfl := Option.some.inj h
  exact ⟨.inl rfl, [(30000, 30000), (6, 20000)], by kernel_rfl⟩

noncomputable def Q34 : AV := (.slice 0 0 (fun _ => []) .exact)
noncomputable def Q32 : List (Nat × AV) := [(0, (.ptr 30000 0)), (2, (.ptr 2 0)), (3, (.ptr 3 0))]
noncomputable def Q28 (x1 : (Int × Treader)) : List AV := [(AV.list 1 eU8 (0 : Int) x1.2.rest .none), (.int .i64 x1.2.code)]
noncomputable def Q29 (x2 : (Int × Treader)) : List AV := [(AV.list 1 eU8 (0 : Int) x2.2.rest .none), (.int .i64 x2.2.code)]
noncomputable def Q30 (x3 : (List (Int) × Treader)) : List AV := [(AV.list 1 eU8 (0 : Int) x3.2.rest .none), (.int .i64 x3.2.code)]
noncomputable def Q31 (x4 : (List (Int) × Treader)) : List AV := [(AV.list 1 eU8 (0 : Int) x4.2.rest .none), (.int .i64 x4.2.code)]
noncomputable def Q33 (a_w0 : Treader) : List AV := [(AV.list 1 eU8 (0 : Int) a_w0.rest .none), (.int .i64 a_w0.code)]
noncomputable def Q26 : List AV := [(.int .i64 (0 : Int)), (.int .i64 (0 : Int)), Q34, Q34]
noncomputable def Q27 (x1 : (Int × Treader)) (x2 : (Int × Treader)) (x3 : (List (Int) × Treader)) (x4 : (List (Int) × Treader)) : List AV := [(.int .i64 x1.1), (.int .i64 x2.1), (AV.list 1 eI64 (0 : Int) x3.1 (.own 11)), (AV.list 1 eI64 (0 : Int) x4.1 (.own 14))]
noncomputable def m_code_reader_phi (a_w0 : Treader) : Option (TPhi × Treader) :=
  ((m_code_reader_number a_w0).bind fun x1 => ((m_code_reader_number x1.2).bind fun x2 => ((m_code_reader_list x2.2).bind fun x3 => ((m_code_reader_list x3.2).bind fun x4 => (some ((⟨x1.1, x2.1, x3.1, x4.1⟩ : TPhi), x4.2))))))
theorem ok_code_reader_phi (a_w0 : Treader) (r : (TPhi × Treader)) (h : m_code_reader_phi a_w0 = some r) : Spec Try.prog 57 [(.ptr 30000 0)] [(30000, .row [(AV.list 1 eU8 (0 : Int) a_w0.rest .none), (.int .i64 a_w0.code)])] (.agg (eTPhi r.1)) [(30000, .row [(AV.list 1 eU8 (0 : Int) r.2.rest .none), (.int .i64 r.2.code)])] := by
  refine spec_of_awp (fn := Try.f57) Try.func57 rfl rfl (by kernel_rfl) (fun Γ hn hΓ => ?_)
  have hn : Γ.n = 17 := hn
  unfold m_code_reader_phi at h
  refine awp_seq ?_
  refine awp_region (rs := []) (cs := []) (live := [0, 2]) (names := [2, 30000]) (st' := (⟨[(0, (.ptr 30000 0)), (2, (.ptr 2 0))], [(2, .row Q26), (30000, .row (Q33 a_w0))]⟩ : St)) (obs := []) hn mix (hand_in hΓ rfl) (by kernel_rfl) trivial ?_
  refine then_normal ?_
  refine awp_seq ?_
  refine awp_region (rs := []) (cs := []) (live := [0, 2, 3]) (names := [2, 3, 30000]) (st' := (⟨Q32, [(2, .row Q26), (3, .row Q26), (30000, .row (Q33 a_w0))]⟩ : St)) (obs := []) hn mix (hand_in hΓ rfl) (by kernel_rfl) trivial ?_
  refine then_normal ?_
  refine awp_seq ?_
  obtain ⟨x1, hx1, h⟩ := bind_some h
  refine awp_region (rs := [⟨[(30000, 30000)], [], (.int .i64 x1.1), [(30000, .row (Q28 x1))]⟩]) (cs := []) (live := [0, 2, 3]) (names := [2, 3, 30000]) (st' := (⟨Q32, [(2, .row Q26), (3, .row [(.int .i64 x1.1), (.int .i64 (0 : Int)), Q34, Q34]), (30000, .row (Q28 x1))]⟩ : St)) (obs := [(Spec Try.prog 46 [(.ptr 30000 0)] [(30000, .row (Q33 a_w0))] (.int .i64 x1.1) [(30000, .row (Q28 x1))]), (0 + List.length (α := AV) [(.int .i64 x1.1)] ≤ List.length (α := AV) Q26)]) hn mix (hand_in hΓ rfl) (by kernel_rfl) ⟨(ok_code_reader_number a_w0 x1 hx1), (nl rfl), trivial⟩ ?_
  refine then_normal ?_
  refine awp_seq ?_
  obtain ⟨x2, hx2, h⟩ := bind_some h
  refine awp_region (rs := [⟨[(30000, 30000)], [], (.int .i64 x2.1), [(30000, .row (Q29 x2))]⟩]) (cs := []) (live := [0, 2, 3]) (names := [2, 3, 30000]) (st' := (⟨Q32, [(2, .row Q26), (3, .row [(.int .i64 x1.1), (.int .i64 x2.1), Q34, Q34]), (30000, .row (Q29 x2))]⟩ : St)) (obs := [(Spec Try.prog 46 [(.ptr 30000 0)] [(30000, .row (Q28 x1))] (.int .i64 x2.1) [(30000, .row (Q29 x2))]), (1 + List.length (α := AV) [(.int .i64 x2.1)] ≤ List.length (α := AV) [(.int .i64 x1.1), (.int .i64 (0 : Int)), Q34, Q34])]) hn mix (hand_in hΓ rfl) (by kernel_rfl) ⟨(ok_code_reader_number x1.2 x2 hx2), (nl rfl), trivial⟩ ?_
  refine then_normal ?_
  refine awp_seq ?_
  obtain ⟨x3, hx3, h⟩ := bind_some h
  refine awp_region (rs := [⟨[(30000, 30000)], [(20000, 11)], (AV.list 1 eI64 (0 : Int) x3.1 (.own 20000)), [(30000, .row (Q30 x3)), (20000, .tok 1 3 x3.1.length)]⟩]) (cs := []) (live := [0, 2, 3]) (names := [2, 3, 11, 30000]) (st' := (⟨Q32, [(2, .row Q26), (3, .row [(.int .i64 x1.1), (.int .i64 x2.1), (AV.list 1 eI64 (0 : Int) x3.1 (.own 11)), Q34]), (11, .tok 1 3 x3.1.length), (30000, .row (Q30 x3))]⟩ : St)) (obs := [(Spec Try.prog 62 [(.ptr 30000 0)] [(30000, .row (Q29 x2))] (AV.list 1 eI64 (0 : Int) x3.1 (.own 20000)) [(30000, .row (Q30 x3)), (20000, .tok 1 3 x3.1.length)]), (2 + List.length (α := AV) [(AV.list 1 eI64 (0 : Int) x3.1 (.own 11))] ≤ List.length (α := AV) [(.int .i64 x1.1), (.int .i64 x2.1), Q34, Q34])]) hn mix (hand_in hΓ rfl) (by kernel_rfl) ⟨(ok_code_reader_list x2.2 x3 hx3), (nl rfl), trivial⟩ ?_
  refine then_normal ?_
  refine awp_seq ?_
  obtain ⟨x4, hx4, h⟩ := bind_some h
  refine awp_region (rs := [⟨[(30000, 30000)], [(20000, 14)], (AV.list 1 eI64 (0 : Int) x4.1 (.own 20000)), [(30000, .row (Q31 x4)), (20000, .tok 1 3 x4.1.length)]⟩]) (cs := []) (live := [2, 3]) (names := [2, 3, 11, 14, 30000]) (st' := (⟨[(2, (.ptr 2 0)), (3, (.ptr 3 0))], [(2, .row Q26), (3, .row (Q27 x1 x2 x3 x4)), (11, .tok 1 3 x3.1.length), (14, .tok 1 3 x4.1.length), (30000, .row (Q31 x4))]⟩ : St)) (obs := [(Spec Try.prog 62 [(.ptr 30000 0)] [(30000, .row (Q30 x3))] (AV.list 1 eI64 (0 : Int) x4.1 (.own 20000)) [(30000, .row (Q31 x4)), (20000, .tok 1 3 x4.1.length)]), (3 + List.length (α := AV) [(AV.list 1 eI64 (0 : Int) x4.1 (.own 14))] ≤ List.length (α := AV) [(.int .i64 x1.1), (.int .i64 x2.1), (AV.list 1 eI64 (0 : Int) x3.1 (.own 11)), Q34])]) hn mix (hand_in hΓ rfl) (by kernel_rfl) ⟨(ok_code_reader_list x3.2 x4 hx4), (nl rfl), trivial⟩ ?_
  refine then_normal ?_
  refine awp_seq ?_
  refine awp_region (rs := []) (cs := []) (live := [2]) (names := [2, 11, 14, 30000]) (st' := (⟨[(2, (.ptr 2 0))], [(2, .row (Q27 x1 x2 x3 x4)), (11, .tok 1 3 x3.1.length), (14, .tok 1 3 x4.1.length), (30000, .row (Q31 x4))]⟩ : St)) (obs := [(0 + 4 ≤ List.length (α := AV) (Q27 x1 x2 x3 x4)), (0 + List.length (α := AV) (Q27 x1 x2 x3 x4) ≤ List.length (α := AV) Q26)]) hn mix (hand_in hΓ rfl) (by kernel_rfl) ⟨(nl rfl), (nl rfl), trivial⟩ ?_
  refine then_normal ?_
  refine awp_ret ?_
  obtain rfl := Option.some.inj h
  exact ⟨.inl rfl, [(30000, 30000)], by kernel_rfl⟩

noncomputable def m_code_many_api_Phi_L1 (x3 : (Int × Treader)) : (List (TPhi) × Int × List (Int) × Int) → Option (LR (List (TPhi) × Int × List (Int) × Int) ((List (TPhi) × List (Int) × Int) ⊕ (List (Int) × Int))) :=
  fun ((l4, i5, l6, i7) : (List (TPhi) × Int × List (Int) × Int)) => (bif (decide ((i5 : Int) < x3.1)) then ((m_code_reader_phi (⟨l6, i7⟩ : Treader)).bind fun x13 => (bif ((x13.2.code : Int) != (0 : Int)) then (some (.done (.inr (x13.2.rest, x13.2.code)))) else (chk (l4.length + ([(⟨x13.1.Bits, x13.1.Dst, x13.1.From, x13.1.Args⟩ : TPhi)] : List (TPhi)).length ≤ room) (some (.next ((l4 ++ ([(⟨x13.1.Bits, x13.1.Dst, x13.1.From, x13.1.Args⟩ : TPhi)] : List (TPhi))), (w64 (i5 + (1 : Int))), x13.2.rest, x13.2.code)))))) else (some (.done (.inl (l4, l6, i7)))))
noncomputable def m_code_many_api_Phi_F2  : (List (Int) × Int) → Option (LR (List (Int) × Int) (List (TPhi) × Treader)) :=
  fun (s_ : (List (Int) × Int)) => match s_ with | (l1, i2) => (some (.done (([] : List TPhi), (⟨l1, i2⟩ : Treader))))
noncomputable def Q43 : AV := (.clo 57 [(.ptr 30000 0)] [])
noncomputable def Q36 : AV := (AV.list 4 eTPhi (default : TPhi) ([] : List TPhi) .exact)
noncomputable def Q35 (x13 : (TPhi × Treader)) := ([(⟨x13.1.Bits, x13.1.Dst, x13.1.From, x13.1.Args⟩ : TPhi)] : List (TPhi))
noncomputable def Q44 (l4 : List (TPhi)) (x13 : (TPhi × Treader)) : AV := (AV.list 4 eTPhi (default : TPhi) (l4 ++ (Q35 x13)) (.own 5009))
noncomputable def Q40 (x3 : (Int × Treader)) : List AV := [(AV.list 1 eU8 (0 : Int) x3.2.rest .none), (.int .i64 x3.2.code)]
noncomputable def Q38 (x13 : (TPhi × Treader)) : List AV := [(AV.list 1 eU8 (0 : Int) x13.2.rest .none), (.int .i64 x13.2.code)]
noncomputable def Q41 (a_w0 : Treader) : List (Nat × Own) := [(30000, .row [(AV.list 1 eU8 (0 : Int) a_w0.rest .none), (.int .i64 a_w0.code)])]
noncomputable def Q45 (x3 : (Int × Treader)) := (⟨[(0, (.ptr 30000 0)), (3, Q43), (9, Q36), (14, (.int .i64 x3.1)), (15, (.int .i64 (0 : Int)))], [(30000, .row (Q40 x3))]⟩ : St)
noncomputable def Q37 (x13 : (TPhi × Treader)) : List AV := [(.int .i64 x13.1.Bits), (.int .i64 x13.1.Dst), (AV.list 1 eI64 (0 : Int) x13.1.From .none), (AV.list 1 eI64 (0 : Int) x13.1.Args .none)]
noncomputable def Q42 (l1 : List (Int)) (i2 : Int) := (⟨[(8, (AV.list 4 eTPhi (default : TPhi) ([] : List TPhi) (.own 6008)))], [(6008, .tok 4 49 (([] : List TPhi).length)), (30000, .row [(AV.list 1 eU8 (0 : Int) l1 .none), (.int .i64 i2)])]⟩ : St)
noncomputable def Q39 (l4 : List (TPhi)) (x3 : (Int × Treader)) (i5 : Int) (l6 : List (Int)) (i7 : Int) := (⟨[(0, (.ptr 30000 0)), (3, Q43), (9, (AV.list 4 eTPhi (default : TPhi) l4 (.own 5009))), (14, (.int .i64 x3.1)), (15, (.int .i64 i5))], [(5009, .tok 4 49 l4.length), (30000, .row [(AV.list 1 eU8 (0 : Int) l6 .none), (.int .i64 i7)])]⟩ : St)
noncomputable def m_code_many_api_Phi (a_least : Int) (a_most : Int) (a_w0 : Treader) : Option (List (TPhi) × Treader) :=
  ((scopeO (S := (List (Int) × Int)) (X := (List (TPhi) × Treader)) ((m_code_reader_within a_least a_most a_w0).bind fun x3 => ((loopO (S := (List (TPhi) × Int × List (Int) × Int)) (X := ((List (TPhi) × List (Int) × Int) ⊕ (List (Int) × Int))) (m_code_many_api_Phi_L1 x3) (([] : List TPhi), (0 : Int), x3.2.rest, x3.2.code)).bind (fun x15 => (match x15 with | (.inl (l8, l9, i10)) => (some (.done (l8, (⟨l9, i10⟩ : Treader)))) | (.inr (l11, i12)) => (some (.next (l11, i12))))))) m_code_many_api_Phi_F2).bind (fun x18 => ((some x18))))
theorem ok_code_many_api_Phi (a_least : Int) (a_most : Int) (a_w0 : Treader) (r : (List (TPhi) × Treader)) (h : m_code_many_api_Phi a_least a_most a_w0 = some r) : Spec Try.prog 56 [(.ptr 30000 0), (.int .u64 a_least), (.int .u64 a_most), (.clo 57 [(.ptr 30000 0)] [])] [(30000, .row [(AV.list 1 eU8 (0 : Int) a_w0.rest .none), (.int .i64 a_w0.code)])] (AV.list 4 eTPhi (default : TPhi) r.1 (.own 20000)) [(30000, .row [(AV.list 1 eU8 (0 : Int) r.2.rest .none), (.int .i64 r.2.code)]), (20000, .tok 4 49 r.1.length)] := by
  refine spec_of_awp (fn := Try.f56) Try.func56 rfl rfl (by kernel_rfl) (fun Γ hn hΓ => ?_)
  have hn : Γ.n = 30 := hn
  unfold m_code_many_api_Phi at h
  refine awp_seq ?_
  refine awp_region (rs := []) (cs := [(8, Q36)]) (live := [0, 1, 2, 3]) (names := [30000]) (st' := (⟨[(0, (.ptr 30000 0)), (1, (.int .u64 a_least)), (2, (.int .u64 a_most)), (3, Q43)], (Q41 a_w0)⟩ : St)) (obs := [(AVle (.slice 0 0 (fun _ => []) .exact) Q36)]) hn mix (hand_in hΓ rfl) (by kernel_rfl) ⟨av_nil, trivial⟩ ?_
  refine then_normal ?_
  obtain ⟨x18, hx18, h⟩ := bind_some h
  refine awp_scope (S := (List (Int) × Int)) (X := (List (TPhi) × Treader)) (fun (s_ : (List (Int) × Int)) => match s_ with | (l1, i2) => 0) (fun (s_ : (List (Int) × Int)) => match s_ with | (l1, i2) => (⟨[], [(30000, .row [(AV.list 1 eU8 (0 : Int) l1 .none), (.int .i64 i2)])]⟩ : St)) _ _ (fun (r_ : (List (TPhi) × Treader)) (e : Exit) (st : St) => e = .ret ∧ retK Try.prog Try.f56.results.toList (Q41 a_w0) (AV.list 4 eTPhi (default : TPhi) r_.1 (.own 20000)) [(30000, .row [(AV.list 1 eU8 (0 : Int) r_.2.rest .none), (.int .i64 r_.2.code)]), (20000, .tok 4 49 r_.1.length)] e st) ?_ ?_ hx18 ?_
  · clear h hx18
    intro y h
    refine awp_seq ?_
    refine awp_region (rs := []) (cs := [(9, Q36)]) (live := [0, 1, 2, 3, 9]) (names := [30000]) (st' := (⟨[(0, (.ptr 30000 0)), (1, (.int .u64 a_least)), (2, (.int .u64 a_most)), (3, Q43), (9, Q36)], (Q41 a_w0)⟩ : St)) (obs := [(AVle (.slice 0 0 (fun _ => []) .exact) Q36)]) hn mix (hand_in hΓ rfl) (by kernel_rfl) ⟨av_nil, trivial⟩ ?_
    refine then_normal ?_
    refine awp_seq ?_
    refine awp_seq ?_
    obtain ⟨x3, hx3, h⟩ := bind_some h
    refine awp_region (rs := [⟨[(30000, 30000)], [], (.int .i64 x3.1), [(30000, .row (Q40 x3))]⟩]) (cs := []) (live := [0, 3, 9, 14, 15]) (names := [30000]) (st' := (Q45 x3)) (obs := [(Spec Try.prog 55 [(.ptr 30000 0), (.int .u64 a_least), (.int .u64 a_most)] (Q41 a_w0) (.int .i64 x3.1) [(30000, .row (Q40 x3))])]) hn mix (hand_in hΓ rfl) (by kernel_rfl) ⟨(ok_code_reader_within a_least a_most a_w0 x3 hx3), trivial⟩ ?_
    refine then_normal ?_
    refine awp_block ?_
    refine awp_le (st' := (fun ((l4, i5, l6, i7) : (List (TPhi) × Int × List (Int) × Int)) => (Q39 l4 x3 i5 l6 i7)) (([] : List TPhi), (0 : Int), x3.2.rest, x3.2.code)) (Le.trans (le_restrict_eq (st' := (Q45 x3)) [0, 3, 9, 14, 15] [30000] (by kernel_rfl) (hand_in hΓ rfl)) (Le.trans (le_tag (t := 9) (nm := 5009) (sz' := 4) (fun i => eTPhi (([] : List TPhi).getD i (default : TPhi))) 49 rfl rfl (.inl ⟨rfl, rfl⟩)) (le_restrict_eq (st' := (⟨[(0, (.ptr 30000 0)), (3, Q43), (9, (AV.list 4 eTPhi (default : TPhi) ([] : List TPhi) (.own 5009))), (14, (.int .i64 x3.1)), (15, (.int .i64 (0 : Int)))], [(5009, .tok 4 49 (([] : List TPhi).length)), (30000, .row (Q40 x3))]⟩ : St)) [0, 3, 9, 14, 15] [5009, 30000] (by kernel_rfl) (hand_in hΓ rfl)))) ?_
    obtain ⟨x15, hx15, h⟩ := bind_some h
    refine awp_loop (fun ((l4, i5, l6, i7) : (List (TPhi) × Int × List (Int) × Int)) => (Q39 l4 x3 i5 l6 i7)) _ (fun (x_ : ((List (TPhi) × List (Int) × Int) ⊕ (List (Int) × Int))) (e : Exit) (st : St) => match x_ with | (.inl (l8, l9, i10)) => e = (.exit 0) ∧ Le Γ st (⟨[(9, (AV.list 4 eTPhi (default : TPhi) l8 (.own 5009)))], [(5009, .tok 4 49 l8.length), (30000, .row [(AV.list 1 eU8 (0 : Int) l9 .none), (.int .i64 i10)])]⟩ : St) | (.inr (l11, i12)) => e = (.goto 0) ∧ Le Γ st (⟨[], [(30000, .row [(AV.list 1 eU8 (0 : Int) l11 .none), (.int .i64 i12)])]⟩ : St)) ?_ hx15 ?_
    · rintro ⟨l4, i5, l6, i7⟩ y h
      unfold m_code_many_api_Phi_L1 at h
      refine awp_seq ?_
      refine awp_region (rs := []) (cs := []) (live := [0, 3, 9, 14, 15, 16]) (names := [5009, 30000]) (st' := (⟨[(0, (.ptr 30000 0)), (3, Q43), (9, (AV.list 4 eTPhi (default : TPhi) l4 (.own 5009))), (14, (.int .i64 x3.1)), (15, (.int .i64 i5)), (16, (.bool (decide ((i5 : Int) < x3.1))))], [(5009, .tok 4 49 l4.length), (30000, .row [(AV.list 1 eU8 (0 : Int) l6 .none), (.int .i64 i7)])]⟩ : St)) (obs := []) hn mix (hand_in hΓ rfl) (by kernel_rfl) trivial ?_
      refine then_normal ?_
      refine awp_seq ?_
      refine awp_cond (decide ((i5 : Int) < x3.1)) (by kernel_rfl) (fun hb => ?_) (fun hb => ?_)
      · replace h := cond_t hb h
        clear hb
        refine awp_skip ?_
        refine then_normal ?_
        refine awp_seq ?_
        refine awp_block ?_
        refine awp_seq ?_
        obtain ⟨x13, hx13, h⟩ := bind_some h
        refine awp_region (rs := [⟨[(30000, 30000)], [], (.agg (eTPhi x13.1)), [(30000, .row (Q38 x13))]⟩]) (cs := []) (live := [0, 3, 9, 10, 14, 15]) (names := [10, 5009, 30000]) (st' := (⟨[(0, (.ptr 30000 0)), (3, Q43), (9, (AV.list 4 eTPhi (default : TPhi) l4 (.own 5009))), (10, (.ptr 10 0)), (14, (.int .i64 x3.1)), (15, (.int .i64 i5))], [(10, .row (Q37 x13)), (5009, .tok 4 49 l4.length), (30000, .row (Q38 x13))]⟩ : St)) (obs := [(Spec Try.prog 57 [(.ptr 30000 0)] [(30000, .row [(AV.list 1 eU8 (0 : Int) l6 .none), (.int .i64 i7)])] (.agg (eTPhi x13.1)) [(30000, .row (Q38 x13))]), (0 + List.length (α := AV) (eTPhi x13.1) ≤ List.length (α := AV) [(.int .i64 (0 : Int)), (.int .i64 (0 : Int)), (.slice 0 0 (fun _ => []) .exact), (.slice 0 0 (fun _ => []) .exact)])]) hn mix (hand_in hΓ rfl) (by kernel_rfl) ⟨(ok_code_reader_phi (⟨l6, i7⟩ : Treader) x13 hx13), (nl rfl), trivial⟩ ?_
        refine then_normal ?_
        refine awp_seq ?_
        refine awp_seq ?_
        refine awp_region (rs := []) (cs := []) (live := [0, 3, 9, 10, 14, 15, 23]) (names := [10, 5009, 30000]) (st' := (⟨[(0, (.ptr 30000 0)), (3, Q43), (9, (AV.list 4 eTPhi (default : TPhi) l4 (.own 5009))), (10, (.ptr 10 0)), (14, (.int .i64 x3.1)), (15, (.int .i64 i5)), (23, (.bool ((x13.2.code : Int) != (0 : Int))))], [(10, .row (Q37 x13)), (5009, .tok 4 49 l4.length), (30000, .row (Q38 x13))]⟩ : St)) (obs := [(1 < List.length (α := AV) (Q38 x13))]) hn mix (hand_in hΓ rfl) (by kernel_rfl) ⟨(nl rfl), trivial⟩ ?_
        refine then_normal ?_
        refine awp_cond ((x13.2.code : Int) != (0 : Int)) (by kernel_rfl) (fun hb => ?_) (fun hb => ?_)
        · replace h := cond_t hb h
          clear hb
          refine awp_goto ?_
          refine then_goto ?_
          refine block_goto ?_
          refine then_goto ?_
          obtain rfl := Option.some.inj h
          exact ⟨(by intro hh; cases hh), rfl, le_restrict_eq [] [30000] (by kernel_rfl) (hand_in hΓ rfl)⟩
        · replace h := cond_f hb h
          clear hb
          refine awp_skip ?_
          refine then_normal ?_
          obtain ⟨hc14, h⟩ := chk_some h
          refine awp_region (rs := []) (cs := [(26, (AV.list 4 eTPhi (default : TPhi) (Q35 x13) .exact)), (27, (Q44 l4 x13))]) (live := [0, 3, 9, 14, 15]) (names := [5009, 30000]) (st' := (⟨[(0, (.ptr 30000 0)), (3, Q43), (9, (Q44 l4 x13)), (14, (.int .i64 x3.1)), (15, (.int .i64 i5))], [(5009, .tok 4 49 ((l4 ++ (Q35 x13)).length)), (30000, .row (Q38 x13))]⟩ : St)) (obs := [(0 + 4 ≤ List.length (α := AV) (Q37 x13)), (AVle (.slice 4 1 (fun i => ([(Q37 x13)] : List (List AV)).getD i []) .exact) (AV.list 4 eTPhi (default : TPhi) (Q35 x13) .exact)), (l4.length = l4.length), (l4.length + (Q35 x13).length ≤ room), (AVle (.slice 4 (l4.length + (Q35 x13).length) (appF l4.length (fun i => eTPhi (l4.getD i (default : TPhi))) (fun i => eTPhi ((Q35 x13).getD i (default : TPhi)))) (.own 5009)) (Q44 l4 x13)), (l4.length + (Q35 x13).length = (l4 ++ (Q35 x13)).length)]) hn mix (hand_in hΓ rfl) (by kernel_rfl) ⟨(nl rfl), (av_lit rfl (fun i hi => map_get (e := eTPhi) (d := (default : TPhi)) (Q35 x13) i hi)), rfl, hc14, av_app, (len_app _ _), trivial⟩ ?_
          refine block_normal ?_
          refine then_normal ?_
          refine awp_region (rs := []) (cs := []) (live := [0, 3, 9, 14, 15]) (names := [5009, 30000]) (st' := (⟨[(0, (.ptr 30000 0)), (3, Q43), (9, (Q44 l4 x13)), (14, (.int .i64 x3.1)), (15, (.int .i64 (w64 (i5 + (1 : Int)))))], [(5009, .tok 4 49 ((l4 ++ (Q35 x13)).length)), (30000, .row (Q38 x13))]⟩ : St)) (obs := []) hn mix (hand_in hΓ rfl) (by kernel_rfl) trivial ?_
          obtain rfl := Option.some.inj h
          exact ⟨rfl, Le.refl _ _⟩
      · replace h := cond_f hb h
        clear hb
        refine awp_exit ?_
        refine then_exit ?_
        obtain rfl := Option.some.inj h
        exact ⟨(by intro hh; cases hh), rfl, le_restrict_eq [9] [5009, 30000] (by kernel_rfl) (hand_in hΓ rfl)⟩
    · clear hx15
      rcases x15 with ⟨l8, l9, i10⟩ | ⟨l11, i12⟩
      · rintro e st' ⟨rfl, hl16⟩
        refine block_here ?_
        refine then_normal ?_
        refine awp_le hl16 ?_
        refine awp_seq ?_
        refine awp_seq ?_
        refine awp_region (rs := []) (cs := []) (live := [8]) (names := [5009, 30000]) (st' := (⟨[(8, (AV.list 4 eTPhi (default : TPhi) l8 (.own 5009)))], [(5009, .tok 4 49 l8.length), (30000, .row [(AV.list 1 eU8 (0 : Int) l9 .none), (.int .i64 i10)])]⟩ : St)) (obs := []) hn mix (hand_in hΓ rfl) (by kernel_rfl) trivial ?_
        refine then_normal ?_
        refine awp_ret ?_
        refine then_ret ?_
        obtain rfl := Option.some.inj h
        exact ⟨(by intro l hh; cases hh), rfl, ⟨.inl rfl, [(30000, 30000), (5009, 20000)], by kernel_rfl⟩⟩
      · rintro e st' ⟨rfl, hl17⟩
        refine block_goto ?_
        refine then_goto ?_
        obtain rfl := Option.some.inj h
        exact ⟨rfl, rfl, Le.trans hl17 (Le.refl _ _)⟩
  · clear h hx18
    rintro ⟨l1, i2⟩ y rest hf h
    obtain rfl := Option.some.inj hf
    clear hf
    unfold m_code_many_api_Phi_F2 at h
    refine awp_seq ?_
    refine awp_skip ?_
    refine then_normal ?_
    refine awp_seq ?_
    refine awp_region (rs := []) (cs := [(8, Q36)]) (live := [8]) (names := [30000]) (st' := (⟨[(8, Q36)], [(30000, .row [(AV.list 1 eU8 (0 : Int) l1 .none), (.int .i64 i2)])]⟩ : St)) (obs := [(AVle (.slice 0 0 (fun _ => []) .exact) Q36)]) hn mix (hand_in hΓ rfl) (by kernel_rfl) ⟨av_nil, trivial⟩ ?_
    refine then_normal ?_
    refine awp_le (st' := (Q42 l1 i2)) (Le.trans (le_restrict_eq (st' := (⟨[(8, Q36)], [(30000, .row [(AV.list 1 eU8 (0 : Int) l1 .none), (.int .i64 i2)])]⟩ : St)) [8] [30000] (by kernel_rfl) (hand_in hΓ rfl)) (Le.trans (le_tag (t := 8) (nm := 6008) (sz' := 4) (fun i => eTPhi (([] : List TPhi).getD i (default : TPhi))) 49 rfl rfl (.inl ⟨rfl, rfl⟩)) (le_restrict_eq (st' := (Q42 l1 i2)) [8] [6008, 30000] (by kernel_rfl) (hand_in hΓ rfl)))) ?_
    refine awp_ret ?_
    obtain rfl := Option.some.inj h
    exact ⟨(by intro l hh; cases hh), rfl, ⟨.inl rfl, [(30000, 30000), (6008, 20000)], by kernel_rfl⟩⟩
  · clear hx18
    rintro e st' ⟨rfl, hk⟩
    obtain rfl := Option.some.inj h
    exact hk

noncomputable def Q57 : AV := (.slice 0 0 (fun _ => []) .exact)
noncomputable def Q48 : List (Nat × AV) := [(0, (.ptr 30000 0)), (2, (.ptr 2 0)), (3, (.ptr 3 0))]
noncomputable def Q49 (x1 : (Int × Treader)) : List AV := [(AV.list 1 eU8 (0 : Int) x1.2.rest .none), (.int .i64 x1.2.code)]
noncomputable def Q50 (x2 : (Int × Treader)) : List AV := [(AV.list 1 eU8 (0 : Int) x2.2.rest .none), (.int .i64 x2.2.code)]
noncomputable def Q51 (x3 : (Int × Treader)) : List AV := [(AV.list 1 eU8 (0 : Int) x3.2.rest .none), (.int .i64 x3.2.code)]
noncomputable def Q52 (x4 : (Int × Treader)) : List AV := [(AV.list 1 eU8 (0 : Int) x4.2.rest .none), (.int .i64 x4.2.code)]
noncomputable def Q53 (x5 : (List (Int) × Treader)) : List AV := [(AV.list 1 eU8 (0 : Int) x5.2.rest .none), (.int .i64 x5.2.code)]
noncomputable def Q54 (x6 : (Int × Treader)) : List AV := [(AV.list 1 eU8 (0 : Int) x6.2.rest .none), (.int .i64 x6.2.code)]
noncomputable def Q56 (a_w0 : Treader) : List AV := [(AV.list 1 eU8 (0 : Int) a_w0.rest .none), (.int .i64 a_w0.code)]
noncomputable def Q47 (x1 : (Int × Treader)) (x2 : (Int × Treader)) (x3 : (Int × Treader)) (x4 : (Int × Treader)) (x5 : (List (Int) × Treader)) (x6 : (Int × Treader)) : List AV := [(.int .i64 x1.1), (.int .i64 x2.1), (.int .i64 x3.1), (.int .i64 x4.1), (AV.list 1 eI64 (0 : Int) x5.1 (.own 17)), (.int .u64 x6.1)]
noncomputable def Q55 (x1 : (Int × Treader)) : List AV := [(.int .i64 x1.1), (.int .i64 (0 : Int)), (.int .i64 (0 : Int)), (.int .i64 (0 : Int)), Q57, (.int .u64 (0 : Int))]
noncomputable def Q46 : List AV := [(.int .i64 (0 : Int)), (.int .i64 (0 : Int)), (.int .i64 (0 : Int)), (.int .i64 (0 : Int)), Q57, (.int .u64 (0 : Int))]
noncomputable def m_code_reader_op (a_w0 : Treader) : Option (TOp × Treader) :=
  ((m_code_reader_number a_w0).bind fun x1 => ((m_code_reader_number x1.2).bind fun x2 => ((m_code_reader_number x2.2).bind fun x3 => ((m_code_reader_number x3.2).bind fun x4 => ((m_code_reader_list x4.2).bind fun x5 => ((m_code_reader_anyNumber x5.2).bind fun x6 => (some ((⟨x1.1, x2.1, x3.1, x4.1, x5.1, x6.1⟩ : TOp), x6.2))))))))
theorem ok_code_reader_op (a_w0 : Treader) (r : (TOp × Treader)) (h : m_code_reader_op a_w0 = some r) : Spec Try.prog 59 [(.ptr 30000 0)] [(30000, .row [(AV.list 1 eU8 (0 : Int) a_w0.rest .none), (.int .i64 a_w0.code)])] (.agg (eTOp r.1)) [(30000, .row [(AV.list 1 eU8 (0 : Int) r.2.rest .none), (.int .i64 r.2.code)])] := by
  refine spec_of_awp (fn := Try.f59) Try.func59 rfl rfl (by kernel_rfl) (fun Γ hn hΓ => ?_)
  have hn : Γ.n = 23 := hn
  unfold m_code_reader_op at h
  refine awp_seq ?_
  refine awp_region (rs := []) (cs := []) (live := [0, 2]) (names := [2, 30000]) (st' := (⟨[(0, (.ptr 30000 0)), (2, (.ptr 2 0))], [(2, .row Q46), (30000, .row (Q56 a_w0))]⟩ : St)) (obs := []) hn mix (hand_in hΓ rfl) (by kernel_rfl) trivial ?_
  refine then_normal ?_
  refine awp_seq ?_
  refine awp_region (rs := []) (cs := []) (live := [0, 2, 3]) (names := [2, 3, 30000]) (st' := (⟨Q48, [(2, .row Q46), (3, .row Q46), (30000, .row (Q56 a_w0))]⟩ : St)) (obs := []) hn mix (hand_in hΓ rfl) (by kernel_rfl) trivial ?_
  refine then_normal ?_
  refine awp_seq ?_
  obtain ⟨x1, hx1, h⟩ := bind_some h
  refine awp_region (rs := [⟨[(30000, 30000)], [], (.int .i64 x1.1), [(30000, .row (Q49 x1))]⟩]) (cs := []) (live := [0, 2, 3]) (names := [2, 3, 30000]) (st' := (⟨Q48, [(2, .row Q46), (3, .row (Q55 x1)), (30000, .row (Q49 x1))]⟩ : St)) (obs := [(Spec Try.prog 46 [(.ptr 30000 0)] [(30000, .row (Q56 a_w0))] (.int .i64 x1.1) [(30000, .row (Q49 x1))]), (0 + List.length (α := AV) [(.int .i64 x1.1)] ≤ List.length (α := AV) Q46)]) hn mix (hand_in hΓ rfl) (by kernel_rfl) ⟨(ok_code_reader_number a_w0 x1 hx1), (nl rfl), trivial⟩ ?_
  refine then_normal ?_
  refine awp_seq ?_
  obtain ⟨x2, hx2, h⟩ := bind_some h
  refine awp_region (rs := [⟨[(30000, 30000)], [], (.int .i64 x2.1), [(30000, .row (Q50 x2))]⟩]) (cs := []) (live := [0, 2, 3]) (names := [2, 3, 30000]) (st' := (⟨Q48, [(2, .row Q46), (3, .row [(.int .i64 x1.1), (.int .i64 x2.1), (.int .i64 (0 : Int)), (.int .i64 (0 : Int)), Q57, (.int .u64 (0 : Int))]), (30000, .row (Q50 x2))]⟩ : St)) (obs := [(Spec Try.prog 46 [(.ptr 30000 0)] [(30000, .row (Q49 x1))] (.int .i64 x2.1) [(30000, .row (Q50 x2))]), (1 + List.length (α := AV) [(.int .i64 x2.1)] ≤ List.length (α := AV) (Q55 x1))]) hn mix (hand_in hΓ rfl) (by kernel_rfl) ⟨(ok_code_reader_number x1.2 x2 hx2), (nl rfl), trivial⟩ ?_
  refine then_normal ?_
  refine awp_seq ?_
  obtain ⟨x3, hx3, h⟩ := bind_some h
  refine awp_region (rs := [⟨[(30000, 30000)], [], (.int .i64 x3.1), [(30000, .row (Q51 x3))]⟩]) (cs := []) (live := [0, 2, 3]) (names := [2, 3, 30000]) (st' := (⟨Q48, [(2, .row Q46), (3, .row [(.int .i64 x1.1), (.int .i64 x2.1), (.int .i64 x3.1), (.int .i64 (0 : Int)), Q57, (.int .u64 (0 : Int))]), (30000, .row (Q51 x3))]⟩ : St)) (obs := [(Spec Try.prog 46 [(.ptr 30000 0)] [(30000, .row (Q50 x2))] (.int .i64 x3.1) [(30000, .row (Q51 x3))]), (2 + List.length (α := AV) [(.int .i64 x3.1)] ≤ List.length (α := AV) [(.int .i64 x1.1), (.int .i64 x2.1), (.int .i64 (0 : Int)), (.int .i64 (0 : Int)), Q57, (.int .u64 (0 : Int))])]) hn mix (hand_in hΓ rfl) (by kernel_rfl) ⟨(ok_code_reader_number x2.2 x3 hx3), (nl rfl), trivial⟩ ?_
  refine then_normal ?_
  refine awp_seq ?_
  obtain ⟨x4, hx4, h⟩ := bind_some h
  refine awp_region (rs := [⟨[(30000, 30000)], [], (.int .i64 x4.1), [(30000, .row (Q52 x4))]⟩]) (cs := []) (live := [0, 2, 3]) (names := [2, 3, 30000]) (st' := (⟨Q48, [(2, .row Q46), (3, .row [(.int .i64 x1.1), (.int .i64 x2.1), (.int .i64 x3.1), (.int .i64 x4.1), Q57, (.int .u64 (0 : Int))]), (30000, .row (Q52 x4))]⟩ : St)) (obs := [(Spec Try.prog 46 [(.ptr 30000 0)] [(30000, .row (Q51 x3))] (.int .i64 x4.1) [(30000, .row (Q52 x4))]), (3 + List.length (α := AV) [(.int .i64 x4.1)] ≤ List.length (α := AV) [(.int .i64 x1.1), (.int .i64 x2.1), (.int .i64 x3.1), (.int .i64 (0 : Int)), Q57, (.int .u64 (0 : Int))])]) hn mix (hand_in hΓ rfl) (by kernel_rfl) ⟨(ok_code_reader_number x3.2 x4 hx4), (nl rfl), trivial⟩ ?_
  refine then_normal ?_
  refine awp_seq ?_
  obtain ⟨x5, hx5, h⟩ := bind_some h
  refine awp_region (rs := [⟨[(30000, 30000)], [(20000, 17)], (AV.list 1 eI64 (0 : Int) x5.1 (.own 20000)), [(30000, .row (Q53 x5)), (20000, .tok 1 3 x5.1.length)]⟩]) (cs := []) (live := [0, 2, 3]) (names := [2, 3, 17, 30000]) (st' := (⟨Q48, [(2, .row Q46), (3, .row [(.int .i64 x1.1), (.int .i64 x2.1), (.int .i64 x3.1), (.int .i64 x4.1), (AV.list 1 eI64 (0 : Int) x5.1 (.own 17)), (.int .u64 (0 : Int))]), (17, .tok 1 3 x5.1.length), (30000, .row (Q53 x5))]⟩ : St)) (obs := [(Spec Try.prog 62 [(.ptr 30000 0)] [(30000, .row (Q52 x4))] (AV.list 1 eI64 (0 : Int) x5.1 (.own 20000)) [(30000, .row (Q53 x5)), (20000, .tok 1 3 x5.1.length)]), (4 + List.length (α := AV) [(AV.list 1 eI64 (0 : Int) x5.1 (.own 17))] ≤ List.length (α := AV) [(.int .i64 x1.1), (.int .i64 x2.1), (.int .i64 x3.1), (.int .i64 x4.1), Q57, (.int .u64 (0 : Int))])]) hn mix (hand_in hΓ rfl) (by kernel_rfl) ⟨(ok_code_reader_list x4.2 x5 hx5), (nl rfl), trivial⟩ ?_
  refine then_normal ?_
  refine awp_seq ?_
  obtain ⟨x6, hx6, h⟩ := bind_some h
  refine awp_region (rs := [⟨[(30000, 30000)], [], (.int .u64 x6.1), [(30000, .row (Q54 x6))]⟩]) (cs := []) (live := [2, 3]) (names := [2, 3, 17, 30000]) (st' := (⟨[(2, (.ptr 2 0)), (3, (.ptr 3 0))], [(2, .row Q46), (3, .row (Q47 x1 x2 x3 x4 x5 x6)), (17, .tok 1 3 x5.1.length), (30000, .row (Q54 x6))]⟩ : St)) (obs := [(Spec Try.prog 61 [(.ptr 30000 0)] [(30000, .row (Q53 x5))] (.int .u64 x6.1) [(30000, .row (Q54 x6))]), (5 + List.length (α := AV) [(.int .u64 x6.1)] ≤ List.length (α := AV) [(.int .i64 x1.1), (.int .i64 x2.1), (.int .i64 x3.1), (.int .i64 x4.1), (AV.list 1 eI64 (0 : Int) x5.1 (.own 17)), (.int .u64 (0 : Int))])]) hn mix (hand_in hΓ rfl) (by kernel_rfl) ⟨(ok_code_reader_anyNumber x5.2 x6 hx6), (nl rfl), trivial⟩ ?_
  refine then_normal ?_
  refine awp_seq ?_
  refine awp_region (rs := []) (cs := []) (live := [2]) (names := [2, 17, 30000]) (st' := (⟨[(2, (.ptr 2 0))], [(2, .row (Q47 x1 x2 x3 x4 x5 x6)), (17, .tok 1 3 x5.1.length), (30000, .row (Q54 x6))]⟩ : St)) (obs := [(0 + 6 ≤ List.length (α := AV) (Q47 x1 x2 x3 x4 x5 x6)), (0 + List.length (α := AV) (Q47 x1 x2 x3 x4 x5 x6) ≤ List.length (α := AV) Q46)]) hn mix (hand_in hΓ rfl) (by kernel_rfl) ⟨(nl rfl), (nl rfl), trivial⟩ ?_
  refine then_normal ?_
  refine awp_ret ?_
  obtain rfl := Option.some.inj h
  exact ⟨.inl rfl, [(30000, 30000)], by kernel_rfl⟩

noncomputable def m_code_many_api_Op_L1 (x3 : (Int × Treader)) : (List (TOp) × Int × List (Int) × Int) → Option (LR (List (TOp) × Int × List (Int) × Int) ((List (TOp) × List (Int) × Int) ⊕ (List (Int) × Int))) :=
  fun ((l4, i5, l6, i7) : (List (TOp) × Int × List (Int) × Int)) => (bif (decide ((i5 : Int) < x3.1)) then ((m_code_reader_op (⟨l6, i7⟩ : Treader)).bind fun x13 => (bif ((x13.2.code : Int) != (0 : Int)) then (some (.done (.inr (x13.2.rest, x13.2.code)))) else (chk (l4.length + ([(⟨x13.1.Kind, x13.1.Bits, x13.1.Lanes, x13.1.Dst, x13.1.Args, x13.1.Imm⟩ : TOp)] : List (TOp)).length ≤ room) (some (.next ((l4 ++ ([(⟨x13.1.Kind, x13.1.Bits, x13.1.Lanes, x13.1.Dst, x13.1.Args, x13.1.Imm⟩ : TOp)] : List (TOp))), (w64 (i5 + (1 : Int))), x13.2.rest, x13.2.code)))))) else (some (.done (.inl (l4, l6, i7)))))
noncomputable def m_code_many_api_Op_F2  : (List (Int) × Int) → Option (LR (List (Int) × Int) (List (TOp) × Treader)) :=
  fun (s_ : (List (Int) × Int)) => match s_ with | (l1, i2) => (some (.done (([] : List TOp), (⟨l1, i2⟩ : Treader))))
noncomputable def Q66 : AV := (.clo 59 [(.ptr 30000 0)] [])
noncomputable def Q59 : AV := (AV.list 6 eTOp (default : TOp) ([] : List TOp) .exact)
noncomputable def Q58 (x13 : (TOp × Treader)) := ([(⟨x13.1.Kind, x13.1.Bits, x13.1.Lanes, x13.1.Dst, x13.1.Args, x13.1.Imm⟩ : TOp)] : List (TOp))
noncomputable def Q67 (l4 : List (TOp)) (x13 : (TOp × Treader)) : AV := (AV.list 6 eTOp (default : TOp) (l4 ++ (Q58 x13)) (.own 5009))
noncomputable def Q63 (x3 : (Int × Treader)) : List AV := [(AV.list 1 eU8 (0 : Int) x3.2.rest .none), (.int .i64 x3.2.code)]
noncomputable def Q61 (x13 : (TOp × Treader)) : List AV := [(AV.list 1 eU8 (0 : Int) x13.2.rest .none), (.int .i64 x13.2.code)]
noncomputable def Q64 (a_w0 : Treader) : List (Nat × Own) := [(30000, .row [(AV.list 1 eU8 (0 : Int) a_w0.rest .none), (.int .i64 a_w0.code)])]
noncomputable def Q68 (x3 : (Int × Treader)) := (⟨[(0, (.ptr 30000 0)), (3, Q66), (9, Q59), (14, (.int .i64 x3.1)), (15, (.int .i64 (0 : Int)))], [(30000, .row (Q63 x3))]⟩ : St)
noncomputable def Q60 (x13 : (TOp × Treader)) : List AV := [(.int .i64 x13.1.Kind), (.int .i64 x13.1.Bits), (.int .i64 x13.1.Lanes), (.int .i64 x13.1.Dst), (AV.list 1 eI64 (0 : Int) x13.1.Args .none), (.int .u64 x13.1.Imm)]
noncomputable def Q65 (l1 : List (Int)) (i2 : Int) := (⟨[(8, (AV.list 6 eTOp (default : TOp) ([] : List TOp) (.own 6008)))], [(6008, .tok 6 46 (([] : List TOp).length)), (30000, .row [(AV.list 1 eU8 (0 : Int) l1 .none), (.int .i64 i2)])]⟩ : St)
noncomputable def Q62 (l4 : List (TOp)) (x3 : (Int × Treader)) (i5 : Int) (l6 : List (Int)) (i7 : Int) := (⟨[(0, (.ptr 30000 0)), (3, Q66), (9, (AV.list 6 eTOp (default : TOp) l4 (.own 5009))), (14, (.int .i64 x3.1)), (15, (.int .i64 i5))], [(5009, .tok 6 46 l4.length), (30000, .row [(AV.list 1 eU8 (0 : Int) l6 .none), (.int .i64 i7)])]⟩ : St)
noncomputable def m_code_many_api_Op (a_least : Int) (a_most : Int) (a_w0 : Treader) : Option (List (TOp) × Treader) :=
  ((scopeO (S := (List (Int) × Int)) (X := (List (TOp) × Treader)) ((m_code_reader_within a_least a_most a_w0).bind fun x3 => ((loopO (S := (List (TOp) × Int × List (Int) × Int)) (X := ((List (TOp) × List (Int) × Int) ⊕ (List (Int) × Int))) (m_code_many_api_Op_L1 x3) (([] : List TOp), (0 : Int), x3.2.rest, x3.2.code)).bind (fun x15 => (match x15 with | (.inl (l8, l9, i10)) => (some (.done (l8, (⟨l9, i10⟩ : Treader)))) | (.inr (l11, i12)) => (some (.next (l11, i12))))))) m_code_many_api_Op_F2).bind (fun x18 => ((some x18))))
theorem ok_code_many_api_Op (a_least : Int) (a_most : Int) (a_w0 : Treader) (r : (List (TOp) × Treader)) (h : m_code_many_api_Op a_least a_most a_w0 = some r) : Spec Try.prog 58 [(.ptr 30000 0), (.int .u64 a_least), (.int .u64 a_most), (.clo 59 [(.ptr 30000 0)] [])] [(30000, .row [(AV.list 1 eU8 (0 : Int) a_w0.rest .none), (.int .i64 a_w0.code)])] (AV.list 6 eTOp (default : TOp) r.1 (.own 20000)) [(30000, .row [(AV.list 1 eU8 (0 : Int) r.2.rest .none), (.int .i64 r.2.code)]), (20000, .tok 6 46 r.1.length)] := by
  refine spec_of_awp (fn := Try.f58) Try.func58 rfl rfl (by kernel_rfl) (fun Γ hn hΓ => ?_)
  have hn : Γ.n = 30 := hn
  unfold m_code_many_api_Op at h
  refine awp_seq ?_
  refine awp_region (rs := []) (cs := [(8, Q59)]) (live := [0, 1, 2, 3]) (names := [30000]) (st' := (⟨[(0, (.ptr 30000 0)), (1, (.int .u64 a_least)), (2, (.int .u64 a_most)), (3, Q66)], (Q64 a_w0)⟩ : St)) (obs := [(AVle (.slice 0 0 (fun _ => []) .exact) Q59)]) hn mix (hand_in hΓ rfl) (by kernel_rfl) ⟨av_nil, trivial⟩ ?_
  refine then_normal ?_
  obtain ⟨x18, hx18, h⟩ := bind_some h
  refine awp_scope (S := (List (Int) × Int)) (X := (List (TOp) × Treader)) (fun (s_ : (List (Int) × Int)) => match s_ with | (l1, i2) => 0) (fun (s_ : (List (Int) × Int)) => match s_ with | (l1, i2) => (⟨[], [(30000, .row [(AV.list 1 eU8 (0 : Int) l1 .none), (.int .i64 i2)])]⟩ : St)) _ _ (fun (r_ : (List (TOp) × Treader)) (e : Exit) (st : St) => e = .ret ∧ retK Try.prog Try.f58.results.toList (Q64 a_w0) (AV.list 6 eTOp (default : TOp) r_.1 (.own 20000)) [(30000, .row [(AV.list 1 eU8 (0 : Int) r_.2.rest .none), (.int .i64 r_.2.code)]), (20000, .tok 6 46 r_.1.length)] e st) ?_ ?_ hx18 ?_
  · clear h hx18
    intro y h
    refine awp_seq ?_
    refine awp_region (rs := []) (cs := [(9, Q59)]) (live := [0, 1, 2, 3, 9]) (names := [30000]) (st' := (⟨[(0, (.ptr 30000 0)), (1, (.int .u64 a_least)), (2, (.int .u64 a_most)), (3, Q66), (9, Q59)], (Q64 a_w0)⟩ : St)) (obs := [(AVle (.slice 0 0 (fun _ => []) .exact) Q59)]) hn mix (hand_in hΓ rfl) (by kernel_rfl) ⟨av_nil, trivial⟩ ?_
    refine then_normal ?_
    refine awp_seq ?_
    refine awp_seq ?_
    obtain ⟨x3, hx3, h⟩ := bind_some h
    refine awp_region (rs := [⟨[(30000, 30000)], [], (.int .i64 x3.1), [(30000, .row (Q63 x3))]⟩]) (cs := []) (live := [0, 3, 9, 14, 15]) (names := [30000]) (st' := (Q68 x3)) (obs := [(Spec Try.prog 55 [(.ptr 30000 0), (.int .u64 a_least), (.int .u64 a_most)] (Q64 a_w0) (.int .i64 x3.1) [(30000, .row (Q63 x3))])]) hn mix (hand_in hΓ rfl) (by kernel_rfl) ⟨(ok_code_reader_within a_least a_most a_w0 x3 hx3), trivial⟩ ?_
    refine then_normal ?_
    refine awp_block ?_
    refine awp_le (st' := (fun ((l4, i5, l6, i7) : (List (TOp) × Int × List (Int) × Int)) => (Q62 l4 x3 i5 l6 i7)) (([] : List TOp), (0 : Int), x3.2.rest, x3.2.code)) (Le.trans (le_restrict_eq (st' := (Q68 x3)) [0, 3, 9, 14, 15] [30000] (by kernel_rfl) (hand_in hΓ rfl)) (Le.trans (le_tag (t := 9) (nm := 5009) (sz' := 6) (fun i => eTOp (([] : List TOp).getD i (default : TOp))) 46 rfl rfl (.inl ⟨rfl, rfl⟩)) (le_restrict_eq (st' := (⟨[(0, (.ptr 30000 0)), (3, Q66), (9, (AV.list 6 eTOp (default : TOp) ([] : List TOp) (.own 5009))), (14, (.int .i64 x3.1)), (15, (.int .i64 (0 : Int)))], [(5009, .tok 6 46 (([] : List TOp).length)), (30000, .row (Q63 x3))]⟩ : St)) [0, 3, 9, 14, 15] [5009, 30000] (by kernel_rfl) (hand_in hΓ rfl)))) ?_
    obtain ⟨x15, hx15, h⟩ := bind_some h
    refine awp_loop (fun ((l4, i5, l6, i7) : (List (TOp) × Int × List (Int) × Int)) => (Q62 l4 x3 i5 l6 i7)) _ (fun (x_ : ((List (TOp) × List (Int) × Int) ⊕ (List (Int) × Int))) (e : Exit) (st : St) => match x_ with | (.inl (l8, l9, i10)) => e = (.exit 0) ∧ Le Γ st (⟨[(9, (AV.list 6 eTOp (default : TOp) l8 (.own 5009)))], [(5009, .tok 6 46 l8.length), (30000, .row [(AV.list 1 eU8 (0 : Int) l9 .none), (.int .i64 i10)])]⟩ : St) | (.inr (l11, i12)) => e = (.goto 0) ∧ Le Γ st (⟨[], [(30000, .row [(AV.list 1 eU8 (0 : Int) l11 .none), (.int .i64 i12)])]⟩ : St)) ?_ hx15 ?_
    · rintro ⟨l4, i5, l6, i7⟩ y h
      unfold m_code_many_api_Op_L1 at h
      refine awp_seq ?_
      refine awp_region (rs := []) (cs := []) (live := [0, 3, 9, 14, 15, 16]) (names := [5009, 30000]) (st' := (⟨[(0, (.ptr 30000 0)), (3, Q66), (9, (AV.list 6 eTOp (default : TOp) l4 (.own 5009))), (14, (.int .i64 x3.1)), (15, (.int .i64 i5)), (16, (.bool (decide ((i5 : Int) < x3.1))))], [(5009, .tok 6 46 l4.length), (30000, .row [(AV.list 1 eU8 (0 : Int) l6 .none), (.int .i64 i7)])]⟩ : St)) (obs := []) hn mix (hand_in hΓ rfl) (by kernel_rfl) trivial ?_
      refine then_normal ?_
      refine awp_seq ?_
      refine awp_cond (decide ((i5 : Int) < x3.1)) (by kernel_rfl) (fun hb => ?_) (fun hb => ?_)
      · replace h := cond_t hb h
        clear hb
        refine awp_skip ?_
        refine then_normal ?_
        refine awp_seq ?_
        refine awp_block ?_
        refine awp_seq ?_
        obtain ⟨x13, hx13, h⟩ := bind_some h
        refine awp_region (rs := [⟨[(30000, 30000)], [], (.agg (eTOp x13.1)), [(30000, .row (Q61 x13))]⟩]) (cs := []) (live := [0, 3, 9, 10, 14, 15]) (names := [10, 5009, 30000]) (st' := (⟨[(0, (.ptr 30000 0)), (3, Q66), (9, (AV.list 6 eTOp (default : TOp) l4 (.own 5009))), (10, (.ptr 10 0)), (14, (.int .i64 x3.1)), (15, (.int .i64 i5))], [(10, .row (Q60 x13)), (5009, .tok 6 46 l4.length), (30000, .row (Q61 x13))]⟩ : St)) (obs := [(Spec Try.prog 59 [(.ptr 30000 0)] [(30000, .row [(AV.list 1 eU8 (0 : Int) l6 .none), (.int .i64 i7)])] (.agg (eTOp x13.1)) [(30000, .row (Q61 x13))]), (0 + List.length (α := AV) (eTOp x13.1) ≤ List.length (α := AV) [(.int .i64 (0 : Int)), (.int .i64 (0 : Int)), (.int .i64 (0 : Int)), (.int .i64 (0 : Int)), (.slice 0 0 (fun _ => []) .exact), (.int .u64 (0 : Int))])]) hn mix (hand_in hΓ rfl) (by kernel_rfl) ⟨(ok_code_reader_op (⟨l6, i7⟩ : Treader) x13 hx13), (nl rfl), trivial⟩ ?_
        refine then_normal ?_
        refine awp_seq ?_
        refine awp_seq ?_
        refine awp_region (rs := []) (cs := []) (live := [0, 3, 9, 10, 14, 15, 23]) (names := [10, 5009, 30000]) (st' := (⟨[(0, (.ptr 30000 0)), (3, Q66), (9, (AV.list 6 eTOp (default : TOp) l4 (.own 5009))), (10, (.ptr 10 0)), (14, (.int .i64 x3.1)), (15, (.int .i64 i5)), (23, (.bool ((x13.2.code : Int) != (0 : Int))))], [(10, .row (Q60 x13)), (5009, .tok 6 46 l4.length), (30000, .row (Q61 x13))]⟩ : St)) (obs := [(1 < List.length (α := AV) (Q61 x13))]) hn mix (hand_in hΓ rfl) (by kernel_rfl) ⟨(nl rfl), trivial⟩ ?_
        refine then_normal ?_
        refine awp_cond ((x13.2.code : Int) != (0 : Int)) (by kernel_rfl) (fun hb => ?_) (fun hb => ?_)
        · replace h := cond_t hb h
          clear hb
          refine awp_goto ?_
          refine then_goto ?_
          refine block_goto ?_
          refine then_goto ?_
          obtain rfl := Option.some.inj h
          exact ⟨(by intro hh; cases hh), rfl, le_restrict_eq [] [30000] (by kernel_rfl) (hand_in hΓ rfl)⟩
        · replace h := cond_f hb h
          clear hb
          refine awp_skip ?_
          refine then_normal ?_
          obtain ⟨hc14, h⟩ := chk_some h
          refine awp_region (rs := []) (cs := [(26, (AV.list 6 eTOp (default : TOp) (Q58 x13) .exact)), (27, (Q67 l4 x13))]) (live := [0, 3, 9, 14, 15]) (names := [5009, 30000]) (st' := (⟨[(0, (.ptr 30000 0)), (3, Q66), (9, (Q67 l4 x13)), (14, (.int .i64 x3.1)), (15, (.int .i64 i5))], [(5009, .tok 6 46 ((l4 ++ (Q58 x13)).length)), (30000, .row (Q61 x13))]⟩ : St)) (obs := [(0 + 6 ≤ List.length (α := AV) (Q60 x13)), (AVle (.slice 6 1 (fun i => ([(Q60 x13)] : List (List AV)).getD i []) .exact) (AV.list 6 eTOp (default : TOp) (Q58 x13) .exact)), (l4.length = l4.length), (l4.length + (Q58 x13).length ≤ room), (AVle (.slice 6 (l4.length + (Q58 x13).length) (appF l4.length (fun i => eTOp (l4.getD i (default : TOp))) (fun i => eTOp ((Q58 x13).getD i (default : TOp)))) (.own 5009)) (Q67 l4 x13)), (l4.length + (Q58 x13).length = (l4 ++ (Q58 x13)).length)]) hn mix (hand_in hΓ rfl) (by kernel_rfl) ⟨(nl rfl), (av_lit rfl (fun i hi => map_get (e := eTOp) (d := (default : TOp)) (Q58 x13) i hi)), rfl, hc14, av_app, (len_app _ _), trivial⟩ ?_
          refine block_normal ?_
          refine then_normal ?_
          refine awp_region (rs := []) (cs := []) (live := [0, 3, 9, 14, 15]) (names := [5009, 30000]) (st' := (⟨[(0, (.ptr 30000 0)), (3, Q66), (9, (Q67 l4 x13)), (14, (.int .i64 x3.1)), (15, (.int .i64 (w64 (i5 + (1 : Int)))))], [(5009, .tok 6 46 ((l4 ++ (Q58 x13)).length)), (30000, .row (Q61 x13))]⟩ : St)) (obs := []) hn mix (hand_in hΓ rfl) (by kernel_rfl) trivial ?_
          obtain rfl := Option.some.inj h
          exact ⟨rfl, Le.refl _ _⟩
      · replace h := cond_f hb h
        clear hb
        refine awp_exit ?_
        refine then_exit ?_
        obtain rfl := Option.some.inj h
        exact ⟨(by intro hh; cases hh), rfl, le_restrict_eq [9] [5009, 30000] (by kernel_rfl) (hand_in hΓ rfl)⟩
    · clear hx15
      rcases x15 with ⟨l8, l9, i10⟩ | ⟨l11, i12⟩
      · rintro e st' ⟨rfl, hl16⟩
        refine block_here ?_
        refine then_normal ?_
        refine awp_le hl16 ?_
        refine awp_seq ?_
        refine awp_seq ?_
        refine awp_region (rs := []) (cs := []) (live := [8]) (names := [5009, 30000]) (st' := (⟨[(8, (AV.list 6 eTOp (default : TOp) l8 (.own 5009)))], [(5009, .tok 6 46 l8.length), (30000, .row [(AV.list 1 eU8 (0 : Int) l9 .none), (.int .i64 i10)])]⟩ : St)) (obs := []) hn mix (hand_in hΓ rfl) (by kernel_rfl) trivial ?_
        refine then_normal ?_
        refine awp_ret ?_
        refine then_ret ?_
        obtain rfl := Option.some.inj h
        exact ⟨(by intro l hh; cases hh), rfl, ⟨.inl rfl, [(30000, 30000), (5009, 20000)], by kernel_rfl⟩⟩
      · rintro e st' ⟨rfl, hl17⟩
        refine block_goto ?_
        refine then_goto ?_
        obtain rfl := Option.some.inj h
        exact ⟨rfl, rfl, Le.trans hl17 (Le.refl _ _)⟩
  · clear h hx18
    rintro ⟨l1, i2⟩ y rest hf h
    obtain rfl := Option.some.inj hf
    clear hf
    unfold m_code_many_api_Op_F2 at h
    refine awp_seq ?_
    refine awp_skip ?_
    refine then_normal ?_
    refine awp_seq ?_
    refine awp_region (rs := []) (cs := [(8, Q59)]) (live := [8]) (names := [30000]) (st' := (⟨[(8, Q59)], [(30000, .row [(AV.list 1 eU8 (0 : Int) l1 .none), (.int .i64 i2)])]⟩ : St)) (obs := [(AVle (.slice 0 0 (fun _ => []) .exact) Q59)]) hn mix (hand_in hΓ rfl) (by kernel_rfl) ⟨av_nil, trivial⟩ ?_
    refine then_normal ?_
    refine awp_le (st' := (Q65 l1 i2)) (Le.trans (le_restrict_eq (st' := (⟨[(8, Q59)], [(30000, .row [(AV.list 1 eU8 (0 : Int) l1 .none), (.int .i64 i2)])]⟩ : St)) [8] [30000] (by kernel_rfl) (hand_in hΓ rfl)) (Le.trans (le_tag (t := 8) (nm := 6008) (sz' := 6) (fun i => eTOp (([] : List TOp).getD i (default : TOp))) 46 rfl rfl (.inl ⟨rfl, rfl⟩)) (le_restrict_eq (st' := (Q65 l1 i2)) [8] [6008, 30000] (by kernel_rfl) (hand_in hΓ rfl)))) ?_
    refine awp_ret ?_
    obtain rfl := Option.some.inj h
    exact ⟨(by intro l hh; cases hh), rfl, ⟨.inl rfl, [(30000, 30000), (6008, 20000)], by kernel_rfl⟩⟩
  · clear hx18
    rintro e st' ⟨rfl, hk⟩
    obtain rfl := Option.some.inj h
    exact hk

noncomputable def Q71 (x1 : (Int × Treader)) : List AV := [(AV.list 1 eU8 (0 : Int) x1.2.rest .none), (.int .i64 x1.2.code)]
noncomputable def Q72 (x2 : (Int × Treader)) : List AV := [(AV.list 1 eU8 (0 : Int) x2.2.rest .none), (.int .i64 x2.2.code)]
noncomputable def Q73 (x3 : (List (Int) × Treader)) : List AV := [(AV.list 1 eU8 (0 : Int) x3.2.rest .none), (.int .i64 x3.2.code)]
noncomputable def Q74 (a_w0 : Treader) : List AV := [(AV.list 1 eU8 (0 : Int) a_w0.rest .none), (.int .i64 a_w0.code)]
noncomputable def Q70 (x1 : (Int × Treader)) (x2 : (Int × Treader)) (x3 : (List (Int) × Treader)) : List AV := [(.int .i64 x1.1), (.int .i64 x2.1), (AV.list 1 eI64 (0 : Int) x3.1 (.own 11))]
noncomputable def Q69 : List AV := [(.int .i64 (0 : Int)), (.int .i64 (0 : Int)), (.slice 0 0 (fun _ => []) .exact)]
noncomputable def m_code_reader_end (a_w0 : Treader) : Option (TEnd × Treader) :=
  ((m_code_reader_number a_w0).bind fun x1 => ((m_code_reader_number x1.2).bind fun x2 => ((m_code_reader_list x2.2).bind fun x3 => (some ((⟨x1.1, x2.1, x3.1⟩ : TEnd), x3.2)))))
theorem ok_code_reader_end (a_w0 : Treader) (r : (TEnd × Treader)) (h : m_code_reader_end a_w0 = some r) : Spec Try.prog 60 [(.ptr 30000 0)] [(30000, .row [(AV.list 1 eU8 (0 : Int) a_w0.rest .none), (.int .i64 a_w0.code)])] (.agg (eTEnd r.1)) [(30000, .row [(AV.list 1 eU8 (0 : Int) r.2.rest .none), (.int .i64 r.2.code)])] := by
  refine spec_of_awp (fn := Try.f60) Try.func60 rfl rfl (by kernel_rfl) (fun Γ hn hΓ => ?_)
  have hn : Γ.n = 14 := hn
  unfold m_code_reader_end at h
  refine awp_seq ?_
  refine awp_region (rs := []) (cs := []) (live := [0, 2]) (names := [2, 30000]) (st' := (⟨[(0, (.ptr 30000 0)), (2, (.ptr 2 0))], [(2, .row Q69), (30000, .row (Q74 a_w0))]⟩ : St)) (obs := []) hn mix (hand_in hΓ rfl) (by kernel_rfl) trivial ?_
  refine then_normal ?_
  refine awp_seq ?_
  refine awp_region (rs := []) (cs := []) (live := [0, 2, 3]) (names := [2, 3, 30000]) (st' := (⟨[(0, (.ptr 30000 0)), (2, (.ptr 2 0)), (3, (.ptr 3 0))], [(2, .row Q69), (3, .row Q69), (30000, .row (Q74 a_w0))]⟩ : St)) (obs := []) hn mix (hand_in hΓ rfl) (by kernel_rfl) trivial ?_
  refine then_normal ?_
  refine awp_seq ?_
  obtain ⟨x1, hx1, h⟩ := bind_some h
  refine awp_region (rs := [⟨[(30000, 30000)], [], (.int .i64 x1.1), [(30000, .row (Q71 x1))]⟩]) (cs := []) (live := [0, 2, 3]) (names := [2, 3, 30000]) (st' := (⟨[(0, (.ptr 30000 0)), (2, (.ptr 2 0)), (3, (.ptr 3 0))], [(2, .row Q69), (3, .row [(.int .i64 x1.1), (.int .i64 (0 : Int)), (.slice 0 0 (fun _ => []) .exact)]), (30000, .row (Q71 x1))]⟩ : St)) (obs := [(Spec Try.prog 46 [(.ptr 30000 0)] [(30000, .row (Q74 a_w0))] (.int .i64 x1.1) [(30000, .row (Q71 x1))]), (0 + List.length (α := AV) [(.int .i64 x1.1)] ≤ List.length (α := AV) Q69)]) hn mix (hand_in hΓ rfl) (by kernel_rfl) ⟨(ok_code_reader_number a_w0 x1 hx1), (nl rfl), trivial⟩ ?_
  refine then_normal ?_
  refine awp_seq ?_
  obtain ⟨x2, hx2, h⟩ := bind_some h
  refine awp_region (rs := [⟨[(30000, 30000)], [], (.int .i64 x2.1), [(30000, .row (Q72 x2))]⟩]) (cs := []) (live := [0, 2, 3]) (names := [2, 3, 30000]) (st' := (⟨[(0, (.ptr 30000 0)), (2, (.ptr 2 0)), (3, (.ptr 3 0))], [(2, .row Q69), (3, .row [(.int .i64 x1.1), (.int .i64 x2.1), (.slice 0 0 (fun _ => []) .exact)]), (30000, .row (Q72 x2))]⟩ : St)) (obs := [(Spec Try.prog 46 [(.ptr 30000 0)] [(30000, .row (Q71 x1))] (.int .i64 x2.1) [(30000, .row (Q72 x2))]), (1 + List.length (α := AV) [(.int .i64 x2.1)] ≤ List.length (α := AV) [(.int .i64 x1.1), (.int .i64 (0 : Int)), (.slice 0 0 (fun _ => []) .exact)])]) hn mix (hand_in hΓ rfl) (by kernel_rfl) ⟨(ok_code_reader_number x1.2 x2 hx2), (nl rfl), trivial⟩ ?_
  refine then_normal ?_
  refine awp_seq ?_
  obtain ⟨x3, hx3, h⟩ := bind_some h
  refine awp_region (rs := [⟨[(30000, 30000)], [(20000, 11)], (AV.list 1 eI64 (0 : Int) x3.1 (.own 20000)), [(30000, .row (Q73 x3)), (20000, .tok 1 3 x3.1.length)]⟩]) (cs := []) (live := [2, 3]) (names := [2, 3, 11, 30000]) (st' := (⟨[(2, (.ptr 2 0)), (3, (.ptr 3 0))], [(2, .row Q69), (3, .row (Q70 x1 x2 x3)), (11, .tok 1 3 x3.1.length), (30000, .row (Q73 x3))]⟩ : St)) (obs := [(Spec Try.prog 62 [(.ptr 30000 0)] [(30000, .row (Q72 x2))] (AV.list 1 eI64 (0 : Int) x3.1 (.own 20000)) [(30000, .row (Q73 x3)), (20000, .tok 1 3 x3.1.length)]), (2 + List.length (α := AV) [(AV.list 1 eI64 (0 : Int) x3.1 (.own 11))] ≤ List.length (α := AV) [(.int .i64 x1.1), (.int .i64 x2.1), (.slice 0 0 (fun _ => []) .exact)])]) hn mix (hand_in hΓ rfl) (by kernel_rfl) ⟨(ok_code_reader_list x2.2 x3 hx3), (nl rfl), trivial⟩ ?_
  refine then_normal ?_
  refine awp_seq ?_
  refine awp_region (rs := []) (cs := []) (live := [2]) (names := [2, 11, 30000]) (st' := (⟨[(2, (.ptr 2 0))], [(2, .row (Q70 x1 x2 x3)), (11, .tok 1 3 x3.1.length), (30000, .row (Q73 x3))]⟩ : St)) (obs := [(0 + 3 ≤ List.length (α := AV) (Q70 x1 x2 x3)), (0 + List.length (α := AV) (Q70 x1 x2 x3) ≤ List.length (α := AV) Q69)]) hn mix (hand_in hΓ rfl) (by kernel_rfl) ⟨(nl rfl), (nl rfl), trivial⟩ ?_
  refine then_normal ?_
  refine awp_ret ?_
  obtain rfl := Option.some.inj h
  exact ⟨.inl rfl, [(30000, 30000)], by kernel_rfl⟩

noncomputable def Q77 (x1 : (List (TPhi) × Treader)) : List AV := [(AV.list 1 eU8 (0 : Int) x1.2.rest .none), (.int .i64 x1.2.code)]
noncomputable def Q78 (x2 : (List (TOp) × Treader)) : List AV := [(AV.list 1 eU8 (0 : Int) x2.2.rest .none), (.int .i64 x2.2.code)]
noncomputable def Q79 (x3 : (TEnd × Treader)) : List AV := [(AV.list 1 eU8 (0 : Int) x3.2.rest .none), (.int .i64 x3.2.code)]
noncomputable def Q82 (a_w0 : Treader) : List AV := [(AV.list 1 eU8 (0 : Int) a_w0.rest .none), (.int .i64 a_w0.code)]
noncomputable def Q75 : List AV := [(.slice 0 0 (fun _ => []) .exact), (.slice 0 0 (fun _ => []) .exact), (.int .i64 (0 : Int)), (.int .i64 (0 : Int)), (.slice 0 0 (fun _ => []) .exact)]
noncomputable def Q81 (x1 : (List (TPhi) × Treader)) : List AV := [(AV.list 4 eTPhi (default : TPhi) x1.1 (.own 7)), (.slice 0 0 (fun _ => []) .exact), (.int .i64 (0 : Int)), (.int .i64 (0 : Int)), (.slice 0 0 (fun _ => []) .exact)]
noncomputable def Q80 (x1 : (List (TPhi) × Treader)) (x2 : (List (TOp) × Treader)) : List AV := [(AV.list 4 eTPhi (default : TPhi) x1.1 (.own 7)), (AV.list 6 eTOp (default : TOp) x2.1 (.own 12)), (.int .i64 (0 : Int)), (.int .i64 (0 : Int)), (.slice 0 0 (fun _ => []) .exact)]
noncomputable def Q76 (x1 : (List (TPhi) × Treader)) (x2 : (List (TOp) × Treader)) (x3 : (TEnd × Treader)) : List AV := [(AV.list 4 eTPhi (default : TPhi) x1.1 (.own 7)), (AV.list 6 eTOp (default : TOp) x2.1 (.own 12)), (.int .i64 x3.1.Kind), (.int .i64 x3.1.Arg), (AV.list 1 eI64 (0 : Int) x3.1.To .none)]
noncomputable def m_code_reader_block (a_w0 : Treader) : Option (TBlock × Treader) :=
  ((m_code_many_api_Phi (0 : Int) (512 : Int) a_w0).bind fun x1 => ((m_code_many_api_Op (0 : Int) (512 : Int) x1.2).bind fun x2 => ((m_code_reader_end x2.2).bind fun x3 => (some ((⟨x1.1, x2.1, x3.1⟩ : TBlock), x3.2)))))
theorem ok_code_reader_block (a_w0 : Treader) (r : (TBlock × Treader)) (h : m_code_reader_block a_w0 = some r) : Spec Try.prog 48 [(.ptr 30000 0)] [(30000, .row [(AV.list 1 eU8 (0 : Int) a_w0.rest .none), (.int .i64 a_w0.code)])] (.agg (eTBlock r.1)) [(30000, .row [(AV.list 1 eU8 (0 : Int) r.2.rest .none), (.int .i64 r.2.code)])] := by
  refine spec_of_awp (fn := Try.f48) Try.func48 rfl rfl (by kernel_rfl) (fun Γ hn hΓ => ?_)
  have hn : Γ.n = 18 := hn
  unfold m_code_reader_block at h
  refine awp_seq ?_
  refine awp_region (rs := []) (cs := []) (live := [0, 2]) (names := [2, 30000]) (st' := (⟨[(0, (.ptr 30000 0)), (2, (.ptr 2 0))], [(2, .row Q75), (30000, .row (Q82 a_w0))]⟩ : St)) (obs := []) hn mix (hand_in hΓ rfl) (by kernel_rfl) trivial ?_
  refine then_normal ?_
  refine awp_seq ?_
  refine awp_region (rs := []) (cs := []) (live := [0, 2, 3]) (names := [2, 3, 30000]) (st' := (⟨[(0, (.ptr 30000 0)), (2, (.ptr 2 0)), (3, (.ptr 3 0))], [(2, .row Q75), (3, .row Q75), (30000, .row (Q82 a_w0))]⟩ : St)) (obs := []) hn mix (hand_in hΓ rfl) (by kernel_rfl) trivial ?_
  refine then_normal ?_
  refine awp_seq ?_
  obtain ⟨x1, hx1, h⟩ := bind_some h
  refine awp_region (rs := [⟨[(30000, 30000)], [(20000, 7)], (AV.list 4 eTPhi (default : TPhi) x1.1 (.own 20000)), [(30000, .row (Q77 x1)), (20000, .tok 4 49 x1.1.length)]⟩]) (cs := []) (live := [0, 2, 3]) (names := [2, 3, 7, 30000]) (st' := (⟨[(0, (.ptr 30000 0)), (2, (.ptr 2 0)), (3, (.ptr 3 0))], [(2, .row Q75), (3, .row (Q81 x1)), (7, .tok 4 49 x1.1.length), (30000, .row (Q77 x1))]⟩ : St)) (obs := [(Spec Try.prog 56 [(.ptr 30000 0), (.int .u64 (0 : Int)), (.int .u64 (512 : Int)), (.clo 57 [(.ptr 30000 0)] [])] [(30000, .row (Q82 a_w0))] (AV.list 4 eTPhi (default : TPhi) x1.1 (.own 20000)) [(30000, .row (Q77 x1)), (20000, .tok 4 49 x1.1.length)]), (0 + List.length (α := AV) [(AV.list 4 eTPhi (default : TPhi) x1.1 (.own 7))] ≤ List.length (α := AV) Q75)]) hn mix (hand_in hΓ rfl) (by kernel_rfl) ⟨(ok_code_many_api_Phi (0 : Int) (512 : Int) a_w0 x1 hx1), (nl rfl), trivial⟩ ?_
  refine then_normal ?_
  refine awp_seq ?_
  obtain ⟨x2, hx2, h⟩ := bind_some h
  refine awp_region (rs := [⟨[(30000, 30000)], [(20000, 12)], (AV.list 6 eTOp (default : TOp) x2.1 (.own 20000)), [(30000, .row (Q78 x2)), (20000, .tok 6 46 x2.1.length)]⟩]) (cs := []) (live := [0, 2, 3]) (names := [2, 3, 7, 12, 30000]) (st' := (⟨[(0, (.ptr 30000 0)), (2, (.ptr 2 0)), (3, (.ptr 3 0))], [(2, .row Q75), (3, .row (Q80 x1 x2)), (7, .tok 4 49 x1.1.length), (12, .tok 6 46 x2.1.length), (30000, .row (Q78 x2))]⟩ : St)) (obs := [(Spec Try.prog 58 [(.ptr 30000 0), (.int .u64 (0 : Int)), (.int .u64 (512 : Int)), (.clo 59 [(.ptr 30000 0)] [])] [(30000, .row (Q77 x1))] (AV.list 6 eTOp (default : TOp) x2.1 (.own 20000)) [(30000, .row (Q78 x2)), (20000, .tok 6 46 x2.1.length)]), (1 + List.length (α := AV) [(AV.list 6 eTOp (default : TOp) x2.1 (.own 12))] ≤ List.length (α := AV) (Q81 x1))]) hn mix (hand_in hΓ rfl) (by kernel_rfl) ⟨(ok_code_many_api_Op (0 : Int) (512 : Int) x1.2 x2 hx2), (nl rfl), trivial⟩ ?_
  refine then_normal ?_
  refine awp_seq ?_
  obtain ⟨x3, hx3, h⟩ := bind_some h
  refine awp_region (rs := [⟨[(30000, 30000)], [], (.agg (eTEnd x3.1)), [(30000, .row (Q79 x3))]⟩]) (cs := []) (live := [2, 3]) (names := [2, 3, 7, 12, 30000]) (st' := (⟨[(2, (.ptr 2 0)), (3, (.ptr 3 0))], [(2, .row Q75), (3, .row (Q76 x1 x2 x3)), (7, .tok 4 49 x1.1.length), (12, .tok 6 46 x2.1.length), (30000, .row (Q79 x3))]⟩ : St)) (obs := [(Spec Try.prog 60 [(.ptr 30000 0)] [(30000, .row (Q78 x2))] (.agg (eTEnd x3.1)) [(30000, .row (Q79 x3))]), (2 + List.length (α := AV) (eTEnd x3.1) ≤ List.length (α := AV) (Q80 x1 x2))]) hn mix (hand_in hΓ rfl) (by kernel_rfl) ⟨(ok_code_reader_end x2.2 x3 hx3), (nl rfl), trivial⟩ ?_
  refine then_normal ?_
  refine awp_seq ?_
  refine awp_region (rs := []) (cs := []) (live := [2]) (names := [2, 7, 12, 30000]) (st' := (⟨[(2, (.ptr 2 0))], [(2, .row (Q76 x1 x2 x3)), (7, .tok 4 49 x1.1.length), (12, .tok 6 46 x2.1.length), (30000, .row (Q79 x3))]⟩ : St)) (obs := [(0 + 5 ≤ List.length (α := AV) (Q76 x1 x2 x3)), (0 + List.length (α := AV) (Q76 x1 x2 x3) ≤ List.length (α := AV) Q75)]) hn mix (hand_in hΓ rfl) (by kernel_rfl) ⟨(nl rfl), (nl rfl), trivial⟩ ?_
  refine then_normal ?_
  refine awp_ret ?_
  obtain rfl := Option.some.inj h
  exact ⟨.inl rfl, [(30000, 30000)], by kernel_rfl⟩

noncomputable def m_code_many_api_Block_L1 (x3 : (Int × Treader)) : (List (TBlock) × Int × List (Int) × Int) → Option (LR (List (TBlock) × Int × List (Int) × Int) ((List (TBlock) × List (Int) × Int) ⊕ (List (Int) × Int))) :=
  fun ((l4, i5, l6, i7) : (List (TBlock) × Int × List (Int) × Int)) => (bif (decide ((i5 : Int) < x3.1)) then ((m_code_reader_block (⟨l6, i7⟩ : Treader)).bind fun x13 => (bif ((x13.2.code : Int) != (0 : Int)) then (some (.done (.inr (x13.2.rest, x13.2.code)))) else (chk (l4.length + ([(⟨x13.1.Phis, x13.1.Ops, (⟨x13.1.End.Kind, x13.1.End.Arg, x13.1.End.To⟩ : TEnd)⟩ : TBlock)] : List (TBlock)).length ≤ room) (some (.next ((l4 ++ ([(⟨x13.1.Phis, x13.1.Ops, (⟨x13.1.End.Kind, x13.1.End.Arg, x13.1.End.To⟩ : TEnd)⟩ : TBlock)] : List (TBlock))), (w64 (i5 + (1 : Int))), x13.2.rest, x13.2.code)))))) else (some (.done (.inl (l4, l6, i7)))))
noncomputable def m_code_many_api_Block_F2  : (List (Int) × Int) → Option (LR (List (Int) × Int) (List (TBlock) × Treader)) :=
  fun (s_ : (List (Int) × Int)) => match s_ with | (l1, i2) => (some (.done (([] : List TBlock), (⟨l1, i2⟩ : Treader))))
noncomputable def Q94 := (default : TBlock)
noncomputable def Q92 : AV := (.clo 48 [(.ptr 30000 0)] [])
noncomputable def Q91 : AV := (.slice 0 0 (fun _ => []) .exact)
noncomputable def Q85 : AV := (AV.list 5 eTBlock Q94 ([] : List TBlock) .exact)
noncomputable def Q88 (x3 : (Int × Treader)) : List AV := [(AV.list 1 eU8 (0 : Int) x3.2.rest .none), (.int .i64 x3.2.code)]
noncomputable def Q86 (x13 : (TBlock × Treader)) : List AV := [(AV.list 1 eU8 (0 : Int) x13.2.rest .none), (.int .i64 x13.2.code)]
noncomputable def Q83 (x13 : (TBlock × Treader)) := ([(⟨x13.1.Phis, x13.1.Ops, (⟨x13.1.End.Kind, x13.1.End.Arg, x13.1.End.To⟩ : TEnd)⟩ : TBlock)] : List (TBlock))
noncomputable def Q93 (l4 : List (TBlock)) (x13 : (TBlock × Treader)) : AV := (AV.list 5 eTBlock Q94 (l4 ++ (Q83 x13)) (.own 5009))
noncomputable def Q89 (a_w0 : Treader) : List (Nat × Own) := [(30000, .row [(AV.list 1 eU8 (0 : Int) a_w0.rest .none), (.int .i64 a_w0.code)])]
noncomputable def Q95 (x3 : (Int × Treader)) := (⟨[(0, (.ptr 30000 0)), (3, Q92), (9, Q85), (14, (.int .i64 x3.1)), (15, (.int .i64 (0 : Int)))], [(30000, .row (Q88 x3))]⟩ : St)
noncomputable def Q90 (l1 : List (Int)) (i2 : Int) := (⟨[(8, (AV.list 5 eTBlock Q94 ([] : List TBlock) (.own 6008)))], [(6008, .tok 5 43 (([] : List TBlock).length)), (30000, .row [(AV.list 1 eU8 (0 : Int) l1 .none), (.int .i64 i2)])]⟩ : St)
noncomputable def Q84 (x13 : (TBlock × Treader)) : List AV := [(AV.list 4 eTPhi (default : TPhi) x13.1.Phis .none), (AV.list 6 eTOp (default : TOp) x13.1.Ops .none), (.int .i64 x13.1.End.Kind), (.int .i64 x13.1.End.Arg), (AV.list 1 eI64 (0 : Int) x13.1.End.To .none)]
noncomputable def Q87 (l4 : List (TBlock)) (x3 : (Int × Treader)) (i5 : Int) (l6 : List (Int)) (i7 : Int) := (⟨[(0, (.ptr 30000 0)), (3, Q92), (9, (AV.list 5 eTBlock Q94 l4 (.own 5009))), (14, (.int .i64 x3.1)), (15, (.int .i64 i5))], [(5009, .tok 5 43 l4.length), (30000, .row [(AV.list 1 eU8 (0 : Int) l6 .none), (.int .i64 i7)])]⟩ : St)
noncomputable def m_code_many_api_Block (a_least : Int) (a_most : Int) (a_w0 : Treader) : Option (List (TBlock) × Treader) :=
  ((scopeO (S := (List (Int) × Int)) (X := (List (TBlock) × Treader)) ((m_code_reader_within a_least a_most a_w0).bind fun x3 => ((loopO (S := (List (TBlock) × Int × List (Int) × Int)) (X := ((List (TBlock) × List (Int) × Int) ⊕ (List (Int) × Int))) (m_code_many_api_Block_L1 x3) (([] : List TBlock), (0 : Int), x3.2.rest, x3.2.code)).bind (fun x15 => (match x15 with | (.inl (l8, l9, i10)) => (some (.done (l8, (⟨l9, i10⟩ : Treader)))) | (.inr (l11, i12)) => (some (.next (l11, i12))))))) m_code_many_api_Block_F2).bind (fun x18 => ((some x18))))
theorem ok_code_many_api_Block (a_least : Int) (a_most : Int) (a_w0 : Treader) (r : (List (TBlock) × Treader)) (h : m_code_many_api_Block a_least a_most a_w0 = some r) : Spec Try.prog 47 [(.ptr 30000 0), (.int .u64 a_least), (.int .u64 a_most), (.clo 48 [(.ptr 30000 0)] [])] [(30000, .row [(AV.list 1 eU8 (0 : Int) a_w0.rest .none), (.int .i64 a_w0.code)])] (AV.list 5 eTBlock (default : TBlock) r.1 (.own 20000)) [(30000, .row [(AV.list 1 eU8 (0 : Int) r.2.rest .none), (.int .i64 r.2.code)]), (20000, .tok 5 43 r.1.length)] := by
  refine spec_of_awp (fn := Try.f47) Try.func47 rfl rfl (by kernel_rfl) (fun Γ hn hΓ => ?_)
  have hn : Γ.n = 30 := hn
  unfold m_code_many_api_Block at h
  refine awp_seq ?_
  refine awp_region (rs := []) (cs := [(8, Q85)]) (live := [0, 1, 2, 3]) (names := [30000]) (st' := (⟨[(0, (.ptr 30000 0)), (1, (.int .u64 a_least)), (2, (.int .u64 a_most)), (3, Q92)], (Q89 a_w0)⟩ : St)) (obs := [(AVle Q91 Q85)]) hn mix (hand_in hΓ rfl) (by kernel_rfl) ⟨av_nil, trivial⟩ ?_
  refine then_normal ?_
  obtain ⟨x18, hx18, h⟩ := bind_some h
  refine awp_scope (S := (List (Int) × Int)) (X := (List (TBlock) × Treader)) (fun (s_ : (List (Int) × Int)) => match s_ with | (l1, i2) => 0) (fun (s_ : (List (Int) × Int)) => match s_ with | (l1, i2) => (⟨[], [(30000, .row [(AV.list 1 eU8 (0 : Int) l1 .none), (.int .i64 i2)])]⟩ : St)) _ _ (fun (r_ : (List (TBlock) × Treader)) (e : Exit) (st : St) => e = .ret ∧ retK Try.prog Try.f47.results.toList (Q89 a_w0) (AV.list 5 eTBlock Q94 r_.1 (.own 20000)) [(30000, .row [(AV.list 1 eU8 (0 : Int) r_.2.rest .none), (.int .i64 r_.2.code)]), (20000, .tok 5 43 r_.1.length)] e st) ?_ ?_ hx18 ?_
  · clear h hx18
    intro y h
    refine awp_seq ?_
    refine awp_region (rs := []) (cs := [(9, Q85)]) (live := [0, 1, 2, 3, 9]) (names := [30000]) (st' := (⟨[(0, (.ptr 30000 0)), (1, (.int .u64 a_least)), (2, (.int .u64 a_most)), (3, Q92), (9, Q85)], (Q89 a_w0)⟩ : St)) (obs := [(AVle Q91 Q85)]) hn mix (hand_in hΓ rfl) (by kernel_rfl) ⟨av_nil, trivial⟩ ?_
    refine then_normal ?_
    refine awp_seq ?_
    refine awp_seq ?_
    obtain ⟨x3, hx3, h⟩ := bind_some h
    refine awp_region (rs := [⟨[(30000, 30000)], [], (.int .i64 x3.1), [(30000, .row (Q88 x3))]⟩]) (cs := []) (live := [0, 3, 9, 14, 15]) (names := [30000]) (st' := (Q95 x3)) (obs := [(Spec Try.prog 55 [(.ptr 30000 0), (.int .u64 a_least), (.int .u64 a_most)] (Q89 a_w0) (.int .i64 x3.1) [(30000, .row (Q88 x3))])]) hn mix (hand_in hΓ rfl) (by kernel_rfl) ⟨(ok_code_reader_within a_least a_most a_w0 x3 hx3), trivial⟩ ?_
    refine then_normal ?_
    refine awp_block ?_
    refine awp_le (st' := (fun ((l4, i5, l6, i7) : (List (TBlock) × Int × List (Int) × Int)) => (Q87 l4 x3 i5 l6 i7)) (([] : List TBlock), (0 : Int), x3.2.rest, x3.2.code)) (Le.trans (le_restrict_eq (st' := (Q95 x3)) [0, 3, 9, 14, 15] [30000] (by kernel_rfl) (hand_in hΓ rfl)) (Le.trans (le_tag (t := 9) (nm := 5009) (sz' := 5) (fun i => eTBlock (([] : List TBlock).getD i Q94)) 43 rfl rfl (.inl ⟨rfl, rfl⟩)) (le_restrict_eq (st' := (⟨[(0, (.ptr 30000 0)), (3, Q92), (9, (AV.list 5 eTBlock Q94 ([] : List TBlock) (.own 5009))), (14, (.int .i64 x3.1)), (15, (.int .i64 (0 : Int)))], [(5009, .tok 5 43 (([] : List TBlock).length)), (30000, .row (Q88 x3))]⟩ : St)) [0, 3, 9, 14, 15] [5009, 30000] (by kernel_rfl) (hand_in hΓ rfl)))) ?_
    obtain ⟨x15, hx15, h⟩ := bind_some h
    refine awp_loop (fun ((l4, i5, l6, i7) : (List (TBlock) × Int × List (Int) × Int)) => (Q87 l4 x3 i5 l6 i7)) _ (fun (x_ : ((List (TBlock) × List (Int) × Int) ⊕ (List (Int) × Int))) (e : Exit) (st : St) => match x_ with | (.inl (l8, l9, i10)) => e = (.exit 0) ∧ Le Γ st (⟨[(9, (AV.list 5 eTBlock Q94 l8 (.own 5009)))], [(5009, .tok 5 43 l8.length), (30000, .row [(AV.list 1 eU8 (0 : Int) l9 .none), (.int .i64 i10)])]⟩ : St) | (.inr (l11, i12)) => e = (.goto 0) ∧ Le Γ st (⟨[], [(30000, .row [(AV.list 1 eU8 (0 : Int) l11 .none), (.int .i64 i12)])]⟩ : St)) ?_ hx15 ?_
    · rintro ⟨l4, i5, l6, i7⟩ y h
      unfold m_code_many_api_Block_L1 at h
      refine awp_seq ?_
      refine awp_region (rs := []) (cs := []) (live := [0, 3, 9, 14, 15, 16]) (names := [5009, 30000]) (st' := (⟨[(0, (.ptr 30000 0)), (3, Q92), (9, (AV.list 5 eTBlock Q94 l4 (.own 5009))), (14, (.int .i64 x3.1)), (15, (.int .i64 i5)), (16, (.bool (decide ((i5 : Int) < x3.1))))], [(5009, .tok 5 43 l4.length), (30000, .row [(AV.list 1 eU8 (0 : Int) l6 .none), (.int .i64 i7)])]⟩ : St)) (obs := []) hn mix (hand_in hΓ rfl) (by kernel_rfl) trivial ?_
      refine then_normal ?_
      refine awp_seq ?_
      refine awp_cond (decide ((i5 : Int) < x3.1)) (by kernel_rfl) (fun hb => ?_) (fun hb => ?_)
      · replace h := cond_t hb h
        clear hb
        refine awp_skip ?_
        refine then_normal ?_
        refine awp_seq ?_
        refine awp_block ?_
        refine awp_seq ?_
        obtain ⟨x13, hx13, h⟩ := bind_some h
        refine awp_region (rs := [⟨[(30000, 30000)], [], (.agg (eTBlock x13.1)), [(30000, .row (Q86 x13))]⟩]) (cs := []) (live := [0, 3, 9, 10, 14, 15]) (names := [10, 5009, 30000]) (st' := (⟨[(0, (.ptr 30000 0)), (3, Q92), (9, (AV.list 5 eTBlock Q94 l4 (.own 5009))), (10, (.ptr 10 0)), (14, (.int .i64 x3.1)), (15, (.int .i64 i5))], [(10, .row (Q84 x13)), (5009, .tok 5 43 l4.length), (30000, .row (Q86 x13))]⟩ : St)) (obs := [(Spec Try.prog 48 [(.ptr 30000 0)] [(30000, .row [(AV.list 1 eU8 (0 : Int) l6 .none), (.int .i64 i7)])] (.agg (eTBlock x13.1)) [(30000, .row (Q86 x13))]), (0 + List.length (α := AV) (eTBlock x13.1) ≤ List.length (α := AV) [Q91, Q91, (.int .i64 (0 : Int)), (.int .i64 (0 : Int)), Q91])]) hn mix (hand_in hΓ rfl) (by kernel_rfl) ⟨(ok_code_reader_block (⟨l6, i7⟩ : Treader) x13 hx13), (nl rfl), trivial⟩ ?_
        refine then_normal ?_
        refine awp_seq ?_
        refine awp_seq ?_
        refine awp_region (rs := []) (cs := []) (live := [0, 3, 9, 10, 14, 15, 23]) (names := [10, 5009, 30000]) (st' := (⟨[(0, (.ptr 30000 0)), (3, Q92), (9, (AV.list 5 eTBlock Q94 l4 (.own 5009))), (10, (.ptr 10 0)), (14, (.int .i64 x3.1)), (15, (.int .i64 i5)), (23, (.bool ((x13.2.code : Int) != (0 : Int))))], [(10, .row (Q84 x13)), (5009, .tok 5 43 l4.length), (30000, .row (Q86 x13))]⟩ : St)) (obs := [(1 < List.length (α := AV) (Q86 x13))]) hn mix (hand_in hΓ rfl) (by kernel_rfl) ⟨(nl rfl), trivial⟩ ?_
        refine then_normal ?_
        refine awp_cond ((x13.2.code : Int) != (0 : Int)) (by kernel_rfl) (fun hb => ?_) (fun hb => ?_)
        · replace h := cond_t hb h
          clear hb
          refine awp_goto ?_
          refine then_goto ?_
          refine block_goto ?_
          refine then_goto ?_
          obtain rfl := Option.some.inj h
          exact ⟨(by intro hh; cases hh), rfl, le_restrict_eq [] [30000] (by kernel_rfl) (hand_in hΓ rfl)⟩
        · replace h := cond_f hb h
          clear hb
          refine awp_skip ?_
          refine then_normal ?_
          obtain ⟨hc14, h⟩ := chk_some h
          refine awp_region (rs := []) (cs := [(26, (AV.list 5 eTBlock Q94 (Q83 x13) .exact)), (27, (Q93 l4 x13))]) (live := [0, 3, 9, 14, 15]) (names := [5009, 30000]) (st' := (⟨[(0, (.ptr 30000 0)), (3, Q92), (9, (Q93 l4 x13)), (14, (.int .i64 x3.1)), (15, (.int .i64 i5))], [(5009, .tok 5 43 ((l4 ++ (Q83 x13)).length)), (30000, .row (Q86 x13))]⟩ : St)) (obs := [(0 + 5 ≤ List.length (α := AV) (Q84 x13)), (AVle (.slice 5 1 (fun i => ([(Q84 x13)] : List (List AV)).getD i []) .exact) (AV.list 5 eTBlock Q94 (Q83 x13) .exact)), (l4.length = l4.length), (l4.length + (Q83 x13).length ≤ room), (AVle (.slice 5 (l4.length + (Q83 x13).length) (appF l4.length (fun i => eTBlock (l4.getD i Q94)) (fun i => eTBlock ((Q83 x13).getD i Q94))) (.own 5009)) (Q93 l4 x13)), (l4.length + (Q83 x13).length = (l4 ++ (Q83 x13)).length)]) hn mix (hand_in hΓ rfl) (by kernel_rfl) ⟨(nl rfl), (av_lit rfl (fun i hi => map_get (e := eTBlock) (d := Q94) (Q83 x13) i hi)), rfl, hc14, av_app, (len_app _ _), trivial⟩ ?_
          refine block_normal ?_
          refine then_normal ?_
          refine awp_region (rs := []) (cs := []) (live := [0, 3, 9, 14, 15]) (names := [5009, 30000]) (st' := (⟨[(0, (.ptr 30000 0)), (3, Q92), (9, (Q93 l4 x13)), (14, (.int .i64 x3.1)), (15, (.int .i64 (w64 (i5 + (1 : Int)))))], [(5009, .tok 5 43 ((l4 ++ (Q83 x13)).length)), (30000, .row (Q86 x13))]⟩ : St)) (obs := []) hn mix (hand_in hΓ rfl) (by kernel_rfl) trivial ?_
          obtain rfl := Option.some.inj h
          exact ⟨rfl, Le.refl _ _⟩
      · replace h := cond_f hb h
        clear hb
        refine awp_exit ?_
        refine then_exit ?_
        obtain rfl := Option.some.inj h
        exact ⟨(by intro hh; cases hh), rfl, le_restrict_eq [9] [5009, 30000] (by kernel_rfl) (hand_in hΓ rfl)⟩
    · clear hx15
      rcases x15 with ⟨l8, l9, i10⟩ | ⟨l11, i12⟩
      · rintro e st' ⟨rfl, hl16⟩
        refine block_here ?_
        refine then_normal ?_
        refine awp_le hl16 ?_
        refine awp_seq ?_
        refine awp_seq ?_
        refine awp_region (rs := []) (cs := []) (live := [8]) (names := [5009, 30000]) (st' := (⟨[(8, (AV.list 5 eTBlock Q94 l8 (.own 5009)))], [(5009, .tok 5 43 l8.length), (30000, .row [(AV.list 1 eU8 (0 : Int) l9 .none), (.int .i64 i10)])]⟩ : St)) (obs := []) hn mix (hand_in hΓ rfl) (by kernel_rfl) trivial ?_
        refine then_normal ?_
        refine awp_ret ?_
        refine then_ret ?_
        obtain rfl := Option.some.inj h
        exact ⟨(by intro l hh; cases hh), rfl, ⟨.inl rfl, [(30000, 30000), (5009, 20000)], by kernel_rfl⟩⟩
      · rintro e st' ⟨rfl, hl17⟩
        refine block_goto ?_
        refine then_goto ?_
        obtain rfl := Option.some.inj h
        exact ⟨rfl, rfl, Le.trans hl17 (Le.refl _ _)⟩
  · clear h hx18
    rintro ⟨l1, i2⟩ y rest hf h
    obtain rfl := Option.some.inj hf
    clear hf
    unfold m_code_many_api_Block_F2 at h
    refine awp_seq ?_
    refine awp_skip ?_
    refine then_normal ?_
    refine awp_seq ?_
    refine awp_region (rs := []) (cs := [(8, Q85)]) (live := [8]) (names := [30000]) (st' := (⟨[(8, Q85)], [(30000, .row [(AV.list 1 eU8 (0 : Int) l1 .none), (.int .i64 i2)])]⟩ : St)) (obs := [(AVle Q91 Q85)]) hn mix (hand_in hΓ rfl) (by kernel_rfl) ⟨av_nil, trivial⟩ ?_
    refine then_normal ?_
    refine awp_le (st' := (Q90 l1 i2)) (Le.trans (le_restrict_eq (st' := (⟨[(8, Q85)], [(30000, .row [(AV.list 1 eU8 (0 : Int) l1 .none), (.int .i64 i2)])]⟩ : St)) [8] [30000] (by kernel_rfl) (hand_in hΓ rfl)) (Le.trans (le_tag (t := 8) (nm := 6008) (sz' := 5) (fun i => eTBlock (([] : List TBlock).getD i Q94)) 43 rfl rfl (.inl ⟨rfl, rfl⟩)) (le_restrict_eq (st' := (Q90 l1 i2)) [8] [6008, 30000] (by kernel_rfl) (hand_in hΓ rfl)))) ?_
    refine awp_ret ?_
    obtain rfl := Option.some.inj h
    exact ⟨(by intro l hh; cases hh), rfl, ⟨.inl rfl, [(30000, 30000), (6008, 20000)], by kernel_rfl⟩⟩
  · clear hx18
    rintro e st' ⟨rfl, hk⟩
    obtain rfl := Option.some.inj h
    exact hk

noncomputable def Q102 (x1 : (List (Int) × Treader)) : AV := (AV.list 1 eI64 (0 : Int) x1.1 (.own 7))
noncomputable def Q98 (x1 : (List (Int) × Treader)) : List AV := [(AV.list 1 eU8 (0 : Int) x1.2.rest .none), (.int .i64 x1.2.code)]
noncomputable def Q99 (x2 : (Int × Treader)) : List AV := [(AV.list 1 eU8 (0 : Int) x2.2.rest .none), (.int .i64 x2.2.code)]
noncomputable def Q100 (x3 : (List (TBlock) × Treader)) : List AV := [(AV.list 1 eU8 (0 : Int) x3.2.rest .none), (.int .i64 x3.2.code)]
noncomputable def Q101 (a_w0 : Treader) : List AV := [(AV.list 1 eU8 (0 : Int) a_w0.rest .none), (.int .i64 a_w0.code)]
noncomputable def Q96 : List AV := [(.slice 0 0 (fun _ => []) .exact), (.int .i64 (0 : Int)), (.slice 0 0 (fun _ => []) .exact)]
noncomputable def Q97 (x1 : (List (Int) × Treader)) (x2 : (Int × Treader)) (x3 : (List (TBlock) × Treader)) : List AV := [(Q102 x1), (.int .i64 x2.1), (AV.list 5 eTBlock (default : TBlock) x3.1 (.own 15))]
noncomputable def m_code_reader_function (a_w0 : Treader) : Option (TFunc × Treader) :=
  ((m_code_many_int (0 : Int) (16 : Int) a_w0).bind fun x1 => ((m_code_reader_number x1.2).bind fun x2 => ((m_code_many_api_Block (1 : Int) (64 : Int) x2.2).bind fun x3 => (some ((⟨x1.1, x2.1, x3.1⟩ : TFunc), x3.2)))))
theorem ok_code_reader_function (a_w0 : Treader) (r : (TFunc × Treader)) (h : m_code_reader_function a_w0 = some r) : Spec Try.prog 33 [(.ptr 30000 0)] [(30000, .row [(AV.list 1 eU8 (0 : Int) a_w0.rest .none), (.int .i64 a_w0.code)])] (.agg (eTFunc r.1)) [(30000, .row [(AV.list 1 eU8 (0 : Int) r.2.rest .none), (.int .i64 r.2.code)])] := by
  refine spec_of_awp (fn := Try.f33) Try.func33 rfl rfl (by kernel_rfl) (fun Γ hn hΓ => ?_)
  have hn : Γ.n = 18 := hn
  unfold m_code_reader_function at h
  refine awp_seq ?_
  refine awp_region (rs := []) (cs := []) (live := [0, 2]) (names := [2, 30000]) (st' := (⟨[(0, (.ptr 30000 0)), (2, (.ptr 2 0))], [(2, .row Q96), (30000, .row (Q101 a_w0))]⟩ : St)) (obs := []) hn mix (hand_in hΓ rfl) (by kernel_rfl) trivial ?_
  refine then_normal ?_
  refine awp_seq ?_
  refine awp_region (rs := []) (cs := []) (live := [0, 2, 3]) (names := [2, 3, 30000]) (st' := (⟨[(0, (.ptr 30000 0)), (2, (.ptr 2 0)), (3, (.ptr 3 0))], [(2, .row Q96), (3, .row Q96), (30000, .row (Q101 a_w0))]⟩ : St)) (obs := []) hn mix (hand_in hΓ rfl) (by kernel_rfl) trivial ?_
  refine then_normal ?_
  refine awp_seq ?_
  obtain ⟨x1, hx1, h⟩ := bind_some h
  refine awp_region (rs := [⟨[(30000, 30000)], [(20000, 7)], (AV.list 1 eI64 (0 : Int) x1.1 (.own 20000)), [(30000, .row (Q98 x1)), (20000, .tok 1 3 x1.1.length)]⟩]) (cs := []) (live := [0, 2, 3]) (names := [2, 3, 7, 30000]) (st' := (⟨[(0, (.ptr 30000 0)), (2, (.ptr 2 0)), (3, (.ptr 3 0))], [(2, .row Q96), (3, .row [(Q102 x1), (.int .i64 (0 : Int)), (.slice 0 0 (fun _ => []) .exact)]), (7, .tok 1 3 x1.1.length), (30000, .row (Q98 x1))]⟩ : St)) (obs := [(Spec Try.prog 45 [(.ptr 30000 0), (.int .u64 (0 : Int)), (.int .u64 (16 : Int)), (.clo 46 [(.ptr 30000 0)] [])] [(30000, .row (Q101 a_w0))] (AV.list 1 eI64 (0 : Int) x1.1 (.own 20000)) [(30000, .row (Q98 x1)), (20000, .tok 1 3 x1.1.length)]), (0 + List.length (α := AV) [(Q102 x1)] ≤ List.length (α := AV) Q96)]) hn mix (hand_in hΓ rfl) (by kernel_rfl) ⟨(ok_code_many_int (0 : Int) (16 : Int) a_w0 x1 hx1), (nl rfl), trivial⟩ ?_
  refine then_normal ?_
  refine awp_seq ?_
  obtain ⟨x2, hx2, h⟩ := bind_some h
  refine awp_region (rs := [⟨[(30000, 30000)], [], (.int .i64 x2.1), [(30000, .row (Q99 x2))]⟩]) (cs := []) (live := [0, 2, 3]) (names := [2, 3, 7, 30000]) (st' := (⟨[(0, (.ptr 30000 0)), (2, (.ptr 2 0)), (3, (.ptr 3 0))], [(2, .row Q96), (3, .row [(Q102 x1), (.int .i64 x2.1), (.slice 0 0 (fun _ => []) .exact)]), (7, .tok 1 3 x1.1.length), (30000, .row (Q99 x2))]⟩ : St)) (obs := [(Spec Try.prog 46 [(.ptr 30000 0)] [(30000, .row (Q98 x1))] (.int .i64 x2.1) [(30000, .row (Q99 x2))]), (1 + List.length (α := AV) [(.int .i64 x2.1)] ≤ List.length (α := AV) [(Q102 x1), (.int .i64 (0 : Int)), (.slice 0 0 (fun _ => []) .exact)])]) hn mix (hand_in hΓ rfl) (by kernel_rfl) ⟨(ok_code_reader_number x1.2 x2 hx2), (nl rfl), trivial⟩ ?_
  refine then_normal ?_
  refine awp_seq ?_
  obtain ⟨x3, hx3, h⟩ := bind_some h
  refine awp_region (rs := [⟨[(30000, 30000)], [(20000, 15)], (AV.list 5 eTBlock (default : TBlock) x3.1 (.own 20000)), [(30000, .row (Q100 x3)), (20000, .tok 5 43 x3.1.length)]⟩]) (cs := []) (live := [2, 3]) (names := [2, 3, 7, 15, 30000]) (st' := (⟨[(2, (.ptr 2 0)), (3, (.ptr 3 0))], [(2, .row Q96), (3, .row (Q97 x1 x2 x3)), (7, .tok 1 3 x1.1.length), (15, .tok 5 43 x3.1.length), (30000, .row (Q100 x3))]⟩ : St)) (obs := [(Spec Try.prog 47 [(.ptr 30000 0), (.int .u64 (1 : Int)), (.int .u64 (64 : Int)), (.clo 48 [(.ptr 30000 0)] [])] [(30000, .row (Q99 x2))] (AV.list 5 eTBlock (default : TBlock) x3.1 (.own 20000)) [(30000, .row (Q100 x3)), (20000, .tok 5 43 x3.1.length)]), (2 + List.length (α := AV) [(AV.list 5 eTBlock (default : TBlock) x3.1 (.own 15))] ≤ List.length (α := AV) [(Q102 x1), (.int .i64 x2.1), (.slice 0 0 (fun _ => []) .exact)])]) hn mix (hand_in hΓ rfl) (by kernel_rfl) ⟨(ok_code_many_api_Block (1 : Int) (64 : Int) x2.2 x3 hx3), (nl rfl), trivial⟩ ?_
  refine then_normal ?_
  refine awp_seq ?_
  refine awp_region (rs := []) (cs := []) (live := [2]) (names := [2, 7, 15, 30000]) (st' := (⟨[(2, (.ptr 2 0))], [(2, .row (Q97 x1 x2 x3)), (7, .tok 1 3 x1.1.length), (15, .tok 5 43 x3.1.length), (30000, .row (Q100 x3))]⟩ : St)) (obs := [(0 + 3 ≤ List.length (α := AV) (Q97 x1 x2 x3)), (0 + List.length (α := AV) (Q97 x1 x2 x3) ≤ List.length (α := AV) Q96)]) hn mix (hand_in hΓ rfl) (by kernel_rfl) ⟨(nl rfl), (nl rfl), trivial⟩ ?_
  refine then_normal ?_
  refine awp_ret ?_
  obtain rfl := Option.some.inj h
  exact ⟨.inl rfl, [(30000, 30000)], by kernel_rfl⟩

noncomputable def m_code_Size_L1 (a_f : TFunc) : (Int × Int) → Option (LR (Int × Int) Int) :=
  fun ((i1, i2) : (Int × Int)) => (bif (decide ((i2 : Int) < (a_f.Blocks.length : Int))) then (chk (InB i2 a_f.Blocks.length) (some (.next ((w64 (i1 + (w64 ((((a_f.Blocks.getD (i2).toNat (default : TBlock)).Phis).length : Int) + (((a_f.Blocks.getD (i2).toNat (default : TBlock)).Ops).length : Int))))), (w64 (i2 + (1 : Int))))))) else (some (.done i1)))
noncomputable def Q105 (a_f : TFunc) : AV := (.int .i64 (a_f.Blocks.length : Int))
noncomputable def Q104 (a_f : TFunc) : AV := (AV.list 5 eTBlock (default : TBlock) a_f.Blocks .none)
noncomputable def Q107 (a_f : TFunc) : List AV := [(AV.list 1 eI64 (0 : Int) a_f.Params .none), (.int .i64 a_f.Ret), (Q104 a_f)]
noncomputable def Q106 (i1 : Int) (a_f : TFunc) (i2 : Int) : AV := (.int .i64 (w64 (i1 + (w64 ((((a_f.Blocks.getD (i2).toNat (default : TBlock)).Phis).length : Int) + (((a_f.Blocks.getD (i2).toNat (default : TBlock)).Ops).length : Int))))))
noncomputable def Q103 (a_f : TFunc) (i2 : Int) : List AV := [(AV.list 4 eTPhi (default : TPhi) (a_f.Blocks.getD (i2).toNat (default : TBlock)).Phis .none), (AV.list 6 eTOp (default : TOp) (a_f.Blocks.getD (i2).toNat (default : TBlock)).Ops .none), (.int .i64 (a_f.Blocks.getD (i2).toNat (default : TBlock)).End.Kind), (.int .i64 (a_f.Blocks.getD (i2).toNat (default : TBlock)).End.Arg), (AV.list 1 eI64 (0 : Int) (a_f.Blocks.getD (i2).toNat (default : TBlock)).End.To .none)]
noncomputable def m_code_Size (a_f : TFunc) : Option Int :=
  ((loopO (S := (Int × Int)) (X := Int) (m_code_Size_L1 a_f) ((a_f.Blocks.length : Int), (0 : Int))).bind (fun x5 => ((some x5))))
theorem ok_code_Size (a_f : TFunc) (r : Int) (h : m_code_Size a_f = some r) : Spec Try.prog 13 [(.agg (eTFunc a_f))] [] (.int .i64 r) [] := by
  refine spec_of_awp (fn := Try.f13) Try.func13 rfl rfl (by kernel_rfl) (fun Γ hn hΓ => ?_)
  have hn : Γ.n = 27 := hn
  unfold m_code_Size at h
  refine awp_seq ?_
  refine awp_region (rs := []) (cs := []) (live := [1]) (names := [1]) (st' := (⟨[(1, (.ptr 1 0))], [(1, .row (Q107 a_f))]⟩ : St)) (obs := []) hn mix (no_hand hΓ) (by kernel_rfl) trivial ?_
  refine then_normal ?_
  refine awp_seq ?_
  refine awp_region (rs := []) (cs := []) (live := [1, 3]) (names := [1]) (st' := (⟨[(1, (.ptr 1 0)), (3, (Q105 a_f))], [(1, .row (Q107 a_f))]⟩ : St)) (obs := [(2 < List.length (α := AV) (Q107 a_f))]) hn mix (no_hand hΓ) (by kernel_rfl) ⟨(nl rfl), trivial⟩ ?_
  refine then_normal ?_
  refine awp_seq ?_
  refine awp_seq ?_
  refine awp_region (rs := []) (cs := []) (live := [3, 10, 11, 12]) (names := []) (st' := (⟨[(3, (Q105 a_f)), (10, (Q104 a_f)), (11, (Q105 a_f)), (12, (.int .i64 (0 : Int)))], []⟩ : St)) (obs := [(2 < List.length (α := AV) (Q107 a_f))]) hn mix (no_hand hΓ) (by kernel_rfl) ⟨(nl rfl), trivial⟩ ?_
  refine then_normal ?_
  refine awp_block ?_
  refine awp_le (st' := (fun ((i1, i2) : (Int × Int)) => (⟨[(3, (.int .i64 i1)), (10, (Q104 a_f)), (11, (Q105 a_f)), (12, (.int .i64 i2))], []⟩ : St)) ((a_f.Blocks.length : Int), (0 : Int))) (Le.refl _ _) ?_
  obtain ⟨x5, hx5, h⟩ := bind_some h
  refine awp_loop (fun ((i1, i2) : (Int × Int)) => (⟨[(3, (.int .i64 i1)), (10, (Q104 a_f)), (11, (Q105 a_f)), (12, (.int .i64 i2))], []⟩ : St)) _ (fun (i3 : Int) (e : Exit) (st : St) => e = (.exit 0) ∧ Le Γ st (⟨[(3, (.int .i64 i3))], []⟩ : St)) ?_ hx5 ?_
  · rintro ⟨i1, i2⟩ y h
    unfold m_code_Size_L1 at h
    refine awp_seq ?_
    refine awp_region (rs := []) (cs := []) (live := [3, 10, 11, 12, 13]) (names := []) (st' := (⟨[(3, (.int .i64 i1)), (10, (Q104 a_f)), (11, (Q105 a_f)), (12, (.int .i64 i2)), (13, (.bool (decide ((i2 : Int) < (a_f.Blocks.length : Int)))))], []⟩ : St)) (obs := []) hn mix (no_hand hΓ) (by kernel_rfl) trivial ?_
    refine then_normal ?_
    refine awp_seq ?_
    refine awp_cond (decide ((i2 : Int) < (a_f.Blocks.length : Int))) (by kernel_rfl) (fun hb => ?_) (fun hb => ?_)
    · replace h := cond_t hb h
      clear hb
      refine awp_skip ?_
      refine then_normal ?_
      refine awp_seq ?_
      refine awp_block ?_
      refine awp_seq ?_
      obtain ⟨hc4, h⟩ := chk_some h
      refine awp_region (rs := []) (cs := []) (live := [3, 5, 10, 11, 12]) (names := [5]) (st' := (⟨[(3, (.int .i64 i1)), (5, (.ptr 5 0)), (10, (Q104 a_f)), (11, (Q105 a_f)), (12, (.int .i64 i2))], [(5, .row (Q103 a_f i2))]⟩ : St)) (obs := [(InB i2 a_f.Blocks.length), (0 + List.length (α := AV) (eTBlock (a_f.Blocks.getD (i2).toNat (default : TBlock))) ≤ List.length (α := AV) [(.slice 0 0 (fun _ => []) .exact), (.slice 0 0 (fun _ => []) .exact), (.int .i64 (0 : Int)), (.int .i64 (0 : Int)), (.slice 0 0 (fun _ => []) .exact)])]) hn mix (no_hand hΓ) (by kernel_rfl) ⟨hc4, (nl rfl), trivial⟩ ?_
      refine then_normal ?_
      refine awp_region (rs := []) (cs := []) (live := [3, 10, 11, 12]) (names := []) (st' := (⟨[(3, (Q106 i1 a_f i2)), (10, (Q104 a_f)), (11, (Q105 a_f)), (12, (.int .i64 i2))], []⟩ : St)) (obs := [(0 < List.length (α := AV) (Q103 a_f i2)), (1 < List.length (α := AV) (Q103 a_f i2))]) hn mix (no_hand hΓ) (by kernel_rfl) ⟨(nl rfl), (nl rfl), trivial⟩ ?_
      refine block_normal ?_
      refine then_normal ?_
      refine awp_region (rs := []) (cs := []) (live := [3, 10, 11, 12]) (names := []) (st' := (⟨[(3, (Q106 i1 a_f i2)), (10, (Q104 a_f)), (11, (Q105 a_f)), (12, (.int .i64 (w64 (i2 + (1 : Int)))))], []⟩ : St)) (obs := []) hn mix (no_hand hΓ) (by kernel_rfl) trivial ?_
      obtain rfl := Option.some.inj h
      exact ⟨rfl, Le.refl _ _⟩
    · replace h := cond_f hb h
      clear hb
      refine awp_exit ?_
      refine then_exit ?_
      obtain rfl := Option.some.inj h
      exact ⟨(by intro hh; cases hh), rfl, le_restrict_eq [3] [] (by kernel_rfl) (no_hand hΓ)⟩
  · clear hx5
    rintro e st' ⟨rfl, hl6⟩
    refine block_here ?_
    refine then_normal ?_
    refine awp_le hl6 ?_
    refine awp_seq ?_
    refine awp_region (rs := []) (cs := []) (live := [2]) (names := []) (st' := (⟨[(2, (.int .i64 x5))], []⟩ : St)) (obs := []) hn mix (no_hand hΓ) (by kernel_rfl) trivial ?_
    refine then_normal ?_
    refine awp_ret ?_
    obtain rfl := Option.some.inj h
    exact ⟨.inl rfl, [], by kernel_rfl⟩

noncomputable def m_code_Decode_F1  : (List (Int) × Int) → Option (LR (List (Int) × Int) (TFunc × Int)) :=
  fun (s_ : (List (Int) × Int)) => match s_ with | (l1, i2) => (some (.done ((⟨([] : List Int), (0 : Int), ([] : List TBlock)⟩ : TFunc), i2)))
noncomputable def Q108 : List AV := [(.slice 0 0 (fun _ => []) .exact), (.int .i64 (0 : Int)), (.slice 0 0 (fun _ => []) .exact)]
noncomputable def Q109 (x3 : (TFunc × Treader)) : List AV := [(AV.list 1 eI64 (0 : Int) x3.1.Params .none), (.int .i64 x3.1.Ret), (AV.list 5 eTBlock (default : TBlock) x3.1.Blocks .none)]
noncomputable def Q111 (x3 : (TFunc × Treader)) : List AV := [(AV.list 1 eU8 (0 : Int) x3.2.rest .none), (.int .i64 x3.2.code)]
noncomputable def Q112 (x3 : (TFunc × Treader)) : List (Nat × Own) := [(2, .row Q108), (5, .row (Q109 x3)), (8, .row (Q111 x3))]
noncomputable def Q110 : List AV := [(AV.list 1 eI64 (0 : Int) ([] : List Int) .exact), (.int .i64 (0 : Int)), (AV.list 5 eTBlock (default : TBlock) ([] : List TBlock) .exact)]
noncomputable def m_code_Decode (a_b : List (Int)) : Option (TFunc × Int) :=
  ((scopeO (S := (List (Int) × Int)) (X := (TFunc × Int)) ((m_code_reader_function (⟨a_b, (0 : Int)⟩ : Treader)).bind fun x3 => (bif ((x3.2.code : Int) != (0 : Int)) then (some (.next (x3.2.rest, x3.2.code))) else (bif (decide (((0 : Int) : Int) < (x3.2.rest.length : Int))) then (some (.next (x3.2.rest, (3 : Int)))) else ((m_code_Size x3.1).bind fun x4 => (bif (decide (((512 : Int) : Int) < x4)) then (some (.next (x3.2.rest, (4 : Int)))) else (some (.done (x3.1, (0 : Int))))))))) m_code_Decode_F1).bind (fun x5 => ((some x5))))
theorem ok_code_Decode (a_b : List (Int)) (r : (TFunc × Int)) (h : m_code_Decode a_b = some r) : Spec Try.prog 17 [(AV.list 1 eU8 (0 : Int) a_b .none)] [] (.tuple [(.agg (eTFunc r.1)), (.int .i64 r.2)]) [] := by
  refine spec_of_awp (fn := Try.f17) Try.func17 rfl rfl (by kernel_rfl) (fun Γ hn hΓ => ?_)
  have hn : Γ.n = 37 := hn
  unfold m_code_Decode at h
  refine awp_seq ?_
  refine awp_region (rs := []) (cs := []) (live := [0, 2]) (names := [2]) (st' := (⟨[(0, (AV.list 1 eU8 (0 : Int) a_b .none)), (2, (.ptr 2 0))], [(2, .row Q108)]⟩ : St)) (obs := []) hn mix (no_hand hΓ) (by kernel_rfl) trivial ?_
  refine then_normal ?_
  obtain ⟨x5, hx5, h⟩ := bind_some h
  refine awp_scope (S := (List (Int) × Int)) (X := (TFunc × Int)) (fun (s_ : (List (Int) × Int)) => match s_ with | (l1, i2) => 0) (fun (s_ : (List (Int) × Int)) => match s_ with | (l1, i2) => (⟨[(2, (.ptr 2 0)), (4, (.ptr 8 0))], [(2, .row Q108), (8, .row [(AV.list 1 eU8 (0 : Int) l1 .none), (.int .i64 i2)])]⟩ : St)) _ _ (fun (r_ : (TFunc × Int)) (e : Exit) (st : St) => e = .ret ∧ retK Try.prog Try.f17.results.toList [] (.tuple [(.agg (eTFunc r_.1)), (.int .i64 r_.2)]) [] e st) ?_ ?_ hx5 ?_
  · clear h hx5
    intro y h
    refine awp_seq ?_
    refine awp_region (rs := []) (cs := []) (live := [2, 4]) (names := [2, 8]) (st' := (⟨[(2, (.ptr 2 0)), (4, (.ptr 8 0))], [(2, .row Q108), (8, .row [(AV.list 1 eU8 (0 : Int) a_b .none), (.int .i64 (0 : Int))])]⟩ : St)) (obs := []) hn mix (no_hand hΓ) (by kernel_rfl) trivial ?_
    refine then_normal ?_
    refine awp_seq ?_
    obtain ⟨x3, hx3, h⟩ := bind_some h
    refine awp_region (rs := [⟨[(8, 30000)], [], (.agg (eTFunc x3.1)), [(30000, .row (Q111 x3))]⟩]) (cs := []) (live := [2, 4, 5]) (names := [2, 5, 8]) (st' := (⟨[(2, (.ptr 2 0)), (4, (.ptr 8 0)), (5, (.ptr 5 0))], (Q112 x3)⟩ : St)) (obs := [(Spec Try.prog 33 [(.ptr 30000 0)] [(30000, .row [(AV.list 1 eU8 (0 : Int) a_b .none), (.int .i64 (0 : Int))])] (.agg (eTFunc x3.1)) [(30000, .row (Q111 x3))]), (0 + List.length (α := AV) (eTFunc x3.1) ≤ List.length (α := AV) Q108)]) hn mix (no_hand hΓ) (by kernel_rfl) ⟨(ok_code_reader_function (⟨a_b, (0 : Int)⟩ : Treader) x3 hx3), (nl rfl), trivial⟩ ?_
    refine then_normal ?_
    refine awp_seq ?_
    refine awp_seq ?_
    refine awp_region (rs := []) (cs := []) (live := [2, 4, 5, 15]) (names := [2, 5, 8]) (st' := (⟨[(2, (.ptr 2 0)), (4, (.ptr 8 0)), (5, (.ptr 5 0)), (15, (.bool ((x3.2.code : Int) != (0 : Int))))], (Q112 x3)⟩ : St)) (obs := [(1 < List.length (α := AV) (Q111 x3))]) hn mix (no_hand hΓ) (by kernel_rfl) ⟨(nl rfl), trivial⟩ ?_
    refine then_normal ?_
    refine awp_cond ((x3.2.code : Int) != (0 : Int)) (by kernel_rfl) (fun hb => ?_) (fun hb => ?_)
    · replace h := cond_t hb h
      clear hb
      refine awp_goto ?_
      refine then_goto ?_
      obtain rfl := Option.some.inj h
      exact ⟨rfl, rfl, le_restrict_eq [2, 4] [2, 8] (by kernel_rfl) (no_hand hΓ)⟩
    · replace h := cond_f hb h
      clear hb
      refine awp_skip ?_
      refine then_normal ?_
      refine awp_seq ?_
      refine awp_seq ?_
      refine awp_region (rs := []) (cs := []) (live := [2, 4, 5, 21]) (names := [2, 5, 8]) (st' := (⟨[(2, (.ptr 2 0)), (4, (.ptr 8 0)), (5, (.ptr 5 0)), (21, (.bool (decide (((0 : Int) : Int) < (x3.2.rest.length : Int)))))], (Q112 x3)⟩ : St)) (obs := [(0 < List.length (α := AV) (Q111 x3))]) hn mix (no_hand hΓ) (by kernel_rfl) ⟨(nl rfl), trivial⟩ ?_
      refine then_normal ?_
      refine awp_cond (decide (((0 : Int) : Int) < (x3.2.rest.length : Int))) (by kernel_rfl) (fun hb => ?_) (fun hb => ?_)
      · replace h := cond_t hb h
        clear hb
        refine awp_seq ?_
        refine awp_region (rs := []) (cs := []) (live := [2, 4]) (names := [2, 8]) (st' := (⟨[(2, (.ptr 2 0)), (4, (.ptr 8 0))], [(2, .row Q108), (8, .row [(AV.list 1 eU8 (0 : Int) x3.2.rest .none), (.int .i64 (3 : Int))])]⟩ : St)) (obs := [(1 + List.length (α := AV) [(.int .i64 (3 : Int))] ≤ List.length (α := AV) (Q111 x3))]) hn mix (no_hand hΓ) (by kernel_rfl) ⟨(nl rfl), trivial⟩ ?_
        refine then_normal ?_
        refine awp_goto ?_
        refine then_goto ?_
        obtain rfl := Option.some.inj h
        exact ⟨rfl, rfl, Le.refl _ _⟩
      · replace h := cond_f hb h
        clear hb
        refine awp_skip ?_
        refine then_normal ?_
        refine awp_seq ?_
        refine awp_seq ?_
        obtain ⟨x4, hx4, h⟩ := bind_some h
        refine awp_region (rs := [⟨[], [], (.int .i64 x4), []⟩]) (cs := []) (live := [2, 4, 5, 27]) (names := [2, 5, 8]) (st' := (⟨[(2, (.ptr 2 0)), (4, (.ptr 8 0)), (5, (.ptr 5 0)), (27, (.bool (decide (((512 : Int) : Int) < x4))))], (Q112 x3)⟩ : St)) (obs := [(0 + 3 ≤ List.length (α := AV) (Q109 x3)), (Spec Try.prog 13 [(.agg (eTFunc x3.1))] [] (.int .i64 x4) [])]) hn mix (no_hand hΓ) (by kernel_rfl) ⟨(nl rfl), (ok_code_Size x3.1 x4 hx4), trivial⟩ ?_
        refine then_normal ?_
        refine awp_cond (decide (((512 : Int) : Int) < x4)) (by kernel_rfl) (fun hb => ?_) (fun hb => ?_)
        · replace h := cond_t hb h
          clear hb
          refine awp_seq ?_
          refine awp_region (rs := []) (cs := []) (live := [2, 4]) (names := [2, 8]) (st' := (⟨[(2, (.ptr 2 0)), (4, (.ptr 8 0))], [(2, .row Q108), (8, .row [(AV.list 1 eU8 (0 : Int) x3.2.rest .none), (.int .i64 (4 : Int))])]⟩ : St)) (obs := [(1 + List.length (α := AV) [(.int .i64 (4 : Int))] ≤ List.length (α := AV) (Q111 x3))]) hn mix (no_hand hΓ) (by kernel_rfl) ⟨(nl rfl), trivial⟩ ?_
          refine then_normal ?_
          refine awp_goto ?_
          refine then_goto ?_
          obtain rfl := Option.some.inj h
          exact ⟨rfl, rfl, Le.refl _ _⟩
        · replace h := cond_f hb h
          clear hb
          refine awp_skip ?_
          refine then_normal ?_
          refine awp_seq ?_
          refine awp_seq ?_
          refine awp_region (rs := []) (cs := []) (live := [2, 3]) (names := [2]) (st' := (⟨[(2, (.ptr 2 0)), (3, (.int .i64 (0 : Int)))], [(2, .row (Q109 x3))]⟩ : St)) (obs := [(0 + 3 ≤ List.length (α := AV) (Q109 x3)), (0 + List.length (α := AV) (eTFunc x3.1) ≤ List.length (α := AV) Q108)]) hn mix (no_hand hΓ) (by kernel_rfl) ⟨(nl rfl), (nl rfl), trivial⟩ ?_
          refine then_normal ?_
          refine awp_ret ?_
          refine then_ret ?_
          obtain rfl := Option.some.inj h
          exact ⟨(by intro l hh; cases hh), rfl, ⟨.inl rfl, [], by kernel_rfl⟩⟩
  · clear h hx5
    rintro ⟨l1, i2⟩ y rest hf h
    obtain rfl := Option.some.inj hf
    clear hf
    unfold m_code_Decode_F1 at h
    refine awp_seq ?_
    refine awp_skip ?_
    refine then_normal ?_
    refine awp_seq ?_
    refine awp_region (rs := []) (cs := [(32, (.agg Q110))]) (live := [2, 3]) (names := [2]) (st' := (⟨[(2, (.ptr 2 0)), (3, (.int .i64 i2))], [(2, .row Q110)]⟩ : St)) (obs := [(AVle (.agg Q108) (.agg Q110)), (1 < List.length (α := AV) [(AV.list 1 eU8 (0 : Int) l1 .none), (.int .i64 i2)]), (0 + List.length (α := AV) Q110 ≤ List.length (α := AV) Q108)]) hn mix (no_hand hΓ) (by kernel_rfl) ⟨(AVle.agg (.cons av_nil (.cons (AVle.refl _) (.cons av_nil .nil)))), (nl rfl), (nl rfl), trivial⟩ ?_
    refine then_normal ?_
    refine awp_le (st' := (⟨[(2, (.ptr 2 0)), (3, (.int .i64 i2))], [(2, .row [(AV.list 1 eI64 (0 : Int) ([] : List Int) .none), (.int .i64 (0 : Int)), (AV.list 5 eTBlock (default : TBlock) ([] : List TBlock) .none)])]⟩ : St)) (Le.trans (le_restrict_eq (st' := (⟨[(2, (.ptr 2 0)), (3, (.int .i64 i2))], [(2, .row Q110)]⟩ : St)) [2, 3] [2] (by kernel_rfl) (no_hand hΓ)) (le_of (.cons (AVle.refl _) (.cons (AVle.refl _) .nil)) (.row (.cons AVle.untag (.cons (AVle.refl _) (.cons AVle.untag .nil))) .nil))) ?_
    refine awp_ret ?_
    obtain rfl := Option.some.inj h
    exact ⟨(by intro l hh; cases hh), rfl, ⟨.inl rfl, [], by kernel_rfl⟩⟩
  · clear hx5
    rintro e st' ⟨rfl, hk⟩
    obtain rfl := Option.some.inj h
    exact hk

noncomputable def m_code_numbersFit_L1 (a_list : List (Int)) : Int → Option (LR Int (Unit ⊕ Bool)) :=
  fun (i1 : Int) => (bif (decide ((i1 : Int) < (a_list.length : Int))) then (chk (InB i1 a_list.length) (bif (bif (decide (((a_list.getD (i1).toNat (0 : Int)) : Int) < (0 : Int))) then true else (decide (((2147483647 : Int) : Int) < (a_list.getD (i1).toNat (0 : Int))))) then (some (.done (.inr false))) else (some (.next (w64 (i1 + (1 : Int))))))) else (some (.done (.inl ()))))
noncomputable def Q115 (a_list : List (Int)) : AV := (.int .i64 (a_list.length : Int))
noncomputable def Q114 (a_list : List (Int)) : AV := (AV.list 1 eI64 (0 : Int) a_list .none)
noncomputable def Q113 (a_list : List (Int)) (i1 : Int) := (decide (((a_list.getD (i1).toNat (0 : Int)) : Int) < (0 : Int)))
noncomputable def m_code_numbersFit (a_list : List (Int)) : Option Bool :=
  ((loopO (S := Int) (X := (Unit ⊕ Bool)) (m_code_numbersFit_L1 a_list) (0 : Int)).bind (fun x3 => (match x3 with | (.inl _) => (some true) | (.inr r5) => (some r5))))
theorem ok_code_numbersFit (a_list : List (Int)) (r : Bool) (h : m_code_numbersFit a_list = some r) : Spec Try.prog 25 [(AV.list 1 eI64 (0 : Int) a_list .none)] [] (.bool r) [] := by
  refine spec_of_awp (fn := Try.f25) Try.func25 rfl rfl (by kernel_rfl) (fun Γ hn hΓ => ?_)
  have hn : Γ.n = 18 := hn
  unfold m_code_numbersFit at h
  refine awp_seq ?_
  refine awp_region (rs := []) (cs := []) (live := [0]) (names := []) (st' := (⟨[(0, (Q114 a_list))], []⟩ : St)) (obs := []) hn mix (no_hand hΓ) (by kernel_rfl) trivial ?_
  refine then_normal ?_
  refine awp_seq ?_
  refine awp_seq ?_
  refine awp_region (rs := []) (cs := []) (live := [5, 6, 7]) (names := []) (st' := (⟨[(5, (Q114 a_list)), (6, (Q115 a_list)), (7, (.int .i64 (0 : Int)))], []⟩ : St)) (obs := []) hn mix (no_hand hΓ) (by kernel_rfl) trivial ?_
  refine then_normal ?_
  refine awp_block ?_
  refine awp_le (st' := (fun (i1 : Int) => (⟨[(5, (Q114 a_list)), (6, (Q115 a_list)), (7, (.int .i64 i1))], []⟩ : St)) (0 : Int)) (Le.refl _ _) ?_
  obtain ⟨x3, hx3, h⟩ := bind_some h
  refine awp_loop (fun (i1 : Int) => (⟨[(5, (Q114 a_list)), (6, (Q115 a_list)), (7, (.int .i64 i1))], []⟩ : St)) _ (fun (x_ : (Unit ⊕ Bool)) (e : Exit) (st : St) => match x_ with | (.inl _) => e = (.exit 0) ∧ Le Γ st (⟨[], []⟩ : St) | (.inr r_) => e = .ret ∧ retK Try.prog Try.f25.results.toList [] (.bool r_) [] e st) ?_ hx3 ?_
  · intro i1 y h
    unfold m_code_numbersFit_L1 at h
    refine awp_seq ?_
    refine awp_region (rs := []) (cs := []) (live := [5, 6, 7, 8]) (names := []) (st' := (⟨[(5, (Q114 a_list)), (6, (Q115 a_list)), (7, (.int .i64 i1)), (8, (.bool (decide ((i1 : Int) < (a_list.length : Int)))))], []⟩ : St)) (obs := []) hn mix (no_hand hΓ) (by kernel_rfl) trivial ?_
    refine then_normal ?_
    refine awp_seq ?_
    refine awp_cond (decide ((i1 : Int) < (a_list.length : Int))) (by kernel_rfl) (fun hb => ?_) (fun hb => ?_)
    · replace h := cond_t hb h
      clear hb
      refine awp_skip ?_
      refine then_normal ?_
      refine awp_seq ?_
      refine awp_block ?_
      refine awp_seq ?_
      obtain ⟨hc2, h⟩ := chk_some h
      refine awp_region (rs := []) (cs := []) (live := [4, 5, 6, 7]) (names := []) (st' := (⟨[(4, (.int .i64 (a_list.getD (i1).toNat (0 : Int)))), (5, (Q114 a_list)), (6, (Q115 a_list)), (7, (.int .i64 i1))], []⟩ : St)) (obs := [(InB i1 a_list.length)]) hn mix (no_hand hΓ) (by kernel_rfl) ⟨hc2, trivial⟩ ?_
      refine then_normal ?_
      refine awp_seq ?_
      refine awp_region (rs := []) (cs := []) (live := [5, 6, 7, 16]) (names := []) (st' := (⟨[(5, (Q114 a_list)), (6, (Q115 a_list)), (7, (.int .i64 i1)), (16, (.bool (bif (Q113 a_list i1) then true else (decide (((2147483647 : Int) : Int) < (a_list.getD (i1).toNat (0 : Int)))))))], []⟩ : St)) (obs := [(((Q113 a_list i1) == false) = true → ((Q113 a_list i1) == false) = true), ((Q113 a_list i1) = false → ((Q113 a_list i1) == false) = true)]) hn mix (no_hand hΓ) (by kernel_rfl) ⟨(fun hg => hg), gF, trivial⟩ ?_
      refine then_normal ?_
      refine awp_cond (bif (Q113 a_list i1) then true else (decide (((2147483647 : Int) : Int) < (a_list.getD (i1).toNat (0 : Int))))) (by kernel_rfl) (fun hb => ?_) (fun hb => ?_)
      · replace h := cond_t hb h
        clear hb
        refine awp_seq ?_
        refine awp_region (rs := []) (cs := []) (live := [2]) (names := []) (st' := (⟨[(2, (.bool false))], []⟩ : St)) (obs := []) hn mix (no_hand hΓ) (by kernel_rfl) trivial ?_
        refine then_normal ?_
        refine awp_ret ?_
        refine block_ret ?_
        refine then_ret ?_
        obtain rfl := Option.some.inj h
        exact ⟨(by intro hh; cases hh), rfl, ⟨.inl rfl, [], by kernel_rfl⟩⟩
      · replace h := cond_f hb h
        clear hb
        refine awp_skip ?_
        refine block_normal ?_
        refine then_normal ?_
        refine awp_region (rs := []) (cs := []) (live := [5, 6, 7]) (names := []) (st' := (⟨[(5, (Q114 a_list)), (6, (Q115 a_list)), (7, (.int .i64 (w64 (i1 + (1 : Int)))))], []⟩ : St)) (obs := []) hn mix (no_hand hΓ) (by kernel_rfl) trivial ?_
        obtain rfl := Option.some.inj h
        exact ⟨rfl, Le.refl _ _⟩
    · replace h := cond_f hb h
      clear hb
      refine awp_exit ?_
      refine then_exit ?_
      obtain rfl := Option.some.inj h
      exact ⟨(by intro hh; cases hh), rfl, le_restrict_eq [] [] (by kernel_rfl) (no_hand hΓ)⟩
  · clear hx3
    rcases x3 with _ | r5
    · rintro e st' ⟨rfl, hl4⟩
      refine block_here ?_
      refine then_normal ?_
      refine awp_le hl4 ?_
      refine awp_seq ?_
      refine awp_region (rs := []) (cs := []) (live := [2]) (names := []) (st' := (⟨[(2, (.bool true))], []⟩ : St)) (obs := []) hn mix (no_hand hΓ) (by kernel_rfl) trivial ?_
      refine then_normal ?_
      refine awp_ret ?_
      obtain rfl := Option.some.inj h
      exact ⟨.inl rfl, [], by kernel_rfl⟩
    · rintro e st' ⟨rfl, hk⟩
      refine block_ret ?_
      refine then_ret ?_
      obtain rfl := Option.some.inj h
      exact hk

noncomputable def Q116 (a_list : List (Int)) := (decide (((a_list.length : Int) : Int) ≤ (64 : Int)))
noncomputable def m_code_listFits (a_list : List (Int)) : Option Bool :=
  ((bif ((decide (((a_list.length : Int) : Int) ≤ (64 : Int))) == true) then m_code_numbersFit a_list else some false).bind fun x1 => (some (bif (decide (((a_list.length : Int) : Int) ≤ (64 : Int))) then x1 else false)))
theorem ok_code_listFits (a_list : List (Int)) (r : Bool) (h : m_code_listFits a_list = some r) : Spec Try.prog 54 [(AV.list 1 eI64 (0 : Int) a_list .none)] [] (.bool r) [] := by
  refine spec_of_awp (fn := Try.f54) Try.func54 rfl rfl (by kernel_rfl) (fun Γ hn hΓ => ?_)
  have hn : Γ.n = 10 := hn
  unfold m_code_listFits at h
  refine awp_seq ?_
  refine awp_region (rs := []) (cs := []) (live := [0]) (names := []) (st' := (⟨[(0, (AV.list 1 eI64 (0 : Int) a_list .none))], []⟩ : St)) (obs := []) hn mix (no_hand hΓ) (by kernel_rfl) trivial ?_
  refine then_normal ?_
  refine awp_seq ?_
  obtain ⟨x1, hx1, h⟩ := bind_some h
  refine awp_region (rs := [⟨[], [], (.bool x1), []⟩]) (cs := []) (live := [2]) (names := []) (st' := (⟨[(2, (.bool (bif (Q116 a_list) then x1 else false)))], []⟩ : St)) (obs := [(((Q116 a_list) == true) = true → ((Q116 a_list) == true) = true), (((Q116 a_list) == true) = true → (Spec Try.prog 25 [(AV.list 1 eI64 (0 : Int) a_list .none)] [] (.bool x1) [])), ((Q116 a_list) = true → ((Q116 a_list) == true) = true)]) hn mix (no_hand hΓ) (by kernel_rfl) ⟨(fun hg => hg), (fun hg => (ok_code_numbersFit a_list x1 (cond_t hg hx1))), gT, trivial⟩ ?_
  refine then_normal ?_
  refine awp_ret ?_
  obtain rfl := Option.some.inj h
  exact ⟨.inl rfl, [], by kernel_rfl⟩

noncomputable def Q118 (x1 : Bool) (x2 : Bool) := ((bif x1 then x2 else false) == true)
noncomputable def Q117 (a_p : TPhi) : List AV := [(.int .i64 a_p.Bits), (.int .i64 a_p.Dst), (AV.list 1 eI64 (0 : Int) a_p.From .none), (AV.list 1 eI64 (0 : Int) a_p.Args .none)]
noncomputable def m_code_phiFits (a_p : TPhi) : Option Bool :=
  ((m_code_numbersFit ([a_p.Bits, a_p.Dst] : List (Int))).bind fun x1 => ((bif (x1 == true) then m_code_listFits a_p.From else some false).bind fun x2 => ((bif ((bif x1 then x2 else false) == true) then m_code_listFits a_p.Args else some false).bind fun x3 => (some (bif (bif x1 then x2 else false) then x3 else false)))))
theorem ok_code_phiFits (a_p : TPhi) (r : Bool) (h : m_code_phiFits a_p = some r) : Spec Try.prog 41 [(.agg (eTPhi a_p))] [] (.bool r) [] := by
  refine spec_of_awp (fn := Try.f41) Try.func41 rfl rfl (by kernel_rfl) (fun Γ hn hΓ => ?_)
  have hn : Γ.n = 19 := hn
  unfold m_code_phiFits at h
  refine awp_seq ?_
  refine awp_region (rs := []) (cs := []) (live := [1]) (names := [1]) (st' := (⟨[(1, (.ptr 1 0))], [(1, .row (Q117 a_p))]⟩ : St)) (obs := []) hn mix (no_hand hΓ) (by kernel_rfl) trivial ?_
  refine then_normal ?_
  refine awp_seq ?_
  obtain ⟨x1, hx1, h⟩ := bind_some h
  obtain ⟨x2, hx2, h⟩ := bind_some h
  obtain ⟨x3, hx3, h⟩ := bind_some h
  refine awp_region (rs := [⟨[], [], (.bool x1), []⟩, ⟨[], [], (.bool x2), []⟩, ⟨[], [], (.bool x3), []⟩]) (cs := [(7, (AV.list 1 eI64 (0 : Int) ([a_p.Bits, a_p.Dst] : List (Int)) .exact))]) (live := [2]) (names := []) (st' := (⟨[(2, (.bool (bif (bif x1 then x2 else false) then x3 else false)))], []⟩ : St)) (obs := [(0 < List.length (α := AV) (Q117 a_p)), (1 < List.length (α := AV) (Q117 a_p)), (AVle (.slice 1 2 (fun i => ([[(.int .i64 a_p.Bits)], [(.int .i64 a_p.Dst)]] : List (List AV)).getD i []) .exact) (AV.list 1 eI64 (0 : Int) ([a_p.Bits, a_p.Dst] : List (Int)) .exact)), (Spec Try.prog 25 [(AV.list 1 eI64 (0 : Int) ([a_p.Bits, a_p.Dst] : List (Int)) .none)] [] (.bool x1) []), ((x1 == true) = true → (x1 == true) = true), ((x1 == true) = true → (2 < List.length (α := AV) (Q117 a_p))), ((x1 == true) = true → (x1 == true) = true), ((x1 == true) = true → (Spec Try.prog 54 [(AV.list 1 eI64 (0 : Int) a_p.From .none)] [] (.bool x2) [])), (x1 = true → (x1 == true) = true), ((Q118 x1 x2) = true → (Q118 x1 x2) = true), ((Q118 x1 x2) = true → (3 < List.length (α := AV) (Q117 a_p))), ((Q118 x1 x2) = true → (Q118 x1 x2) = true), ((Q118 x1 x2) = true → (Spec Try.prog 54 [(AV.list 1 eI64 (0 : Int) a_p.Args .none)] [] (.bool x3) [])), ((bif x1 then x2 else false) = true → (Q118 x1 x2) = true)]) hn mix (no_hand hΓ) (by kernel_rfl) ⟨(nl rfl), (nl rfl), (av_lit rfl (fun i hi => map_get (e := eI64) (d := (0 : Int)) ([a_p.Bits, a_p.Dst] : List (Int)) i hi)), (ok_code_numbersFit ([a_p.Bits, a_p.Dst] : List (Int)) x1 hx1), (fun hg => hg), (fun hg => (nl rfl)), (fun hg => hg), (fun hg => (ok_code_listFits a_p.From x2 (cond_t hg hx2))), gT, (fun hg => hg), (fun hg => (nl rfl)), (fun hg => hg), (fun hg => (ok_code_listFits a_p.Args x3 (cond_t hg hx3))), gT, trivial⟩ ?_
  refine then_normal ?_
  refine awp_ret ?_
  obtain rfl := Option.some.inj h
  exact ⟨.inl rfl, [], by kernel_rfl⟩

noncomputable def m_code_allFit_api_Phi_L1 (a_list : List (TPhi)) : Int → Option (LR Int (Unit ⊕ Bool)) :=
  fun (i1 : Int) => (bif (decide ((i1 : Int) < (a_list.length : Int))) then (chk (InB i1 a_list.length) ((m_code_phiFits (a_list.getD (i1).toNat (default : TPhi))).bind fun x3 => (bif (!x3) then (some (.done (.inr false))) else (some (.next (w64 (i1 + (1 : Int)))))))) else (some (.done (.inl ()))))
noncomputable def Q121 (a_list : List (TPhi)) : AV := (.int .i64 (a_list.length : Int))
noncomputable def Q119 (a_list : List (TPhi)) (i1 : Int) := (a_list.getD (i1).toNat (default : TPhi))
noncomputable def Q120 (a_list : List (TPhi)) : AV := (AV.list 4 eTPhi (default : TPhi) a_list .none)
noncomputable def Q122 (a_list : List (TPhi)) (i1 : Int) : List AV := [(.int .i64 (Q119 a_list i1).Bits), (.int .i64 (Q119 a_list i1).Dst), (AV.list 1 eI64 (0 : Int) (Q119 a_list i1).From .none), (AV.list 1 eI64 (0 : Int) (Q119 a_list i1).Args .none)]
noncomputable def m_code_allFit_api_Phi (a_list : List (TPhi)) : Option Bool :=
  ((loopO (S := Int) (X := (Unit ⊕ Bool)) (m_code_allFit_api_Phi_L1 a_list) (0 : Int)).bind (fun x4 => (match x4 with | (.inl _) => (some true) | (.inr r6) => (some r6))))
theorem ok_code_allFit_api_Phi (a_list : List (TPhi)) (r : Bool) (h : m_code_allFit_api_Phi a_list = some r) : Spec Try.prog 40 [(AV.list 4 eTPhi (default : TPhi) a_list .none), (.clo 41 [] [])] [] (.bool r) [] := by
  refine spec_of_awp (fn := Try.f40) Try.func40 rfl rfl (by kernel_rfl) (fun Γ hn hΓ => ?_)
  have hn : Γ.n = 18 := hn
  unfold m_code_allFit_api_Phi at h
  refine awp_seq ?_
  refine awp_region (rs := []) (cs := []) (live := [0, 1]) (names := []) (st' := (⟨[(0, (Q120 a_list)), (1, (.clo 41 [] []))], []⟩ : St)) (obs := []) hn mix (no_hand hΓ) (by kernel_rfl) trivial ?_
  refine then_normal ?_
  refine awp_seq ?_
  refine awp_seq ?_
  refine awp_region (rs := []) (cs := []) (live := [1, 7, 8, 9]) (names := []) (st' := (⟨[(1, (.clo 41 [] [])), (7, (Q120 a_list)), (8, (Q121 a_list)), (9, (.int .i64 (0 : Int)))], []⟩ : St)) (obs := []) hn mix (no_hand hΓ) (by kernel_rfl) trivial ?_
  refine then_normal ?_
  refine awp_block ?_
  refine awp_le (st' := (fun (i1 : Int) => (⟨[(1, (.clo 41 [] [])), (7, (Q120 a_list)), (8, (Q121 a_list)), (9, (.int .i64 i1))], []⟩ : St)) (0 : Int)) (Le.refl _ _) ?_
  obtain ⟨x4, hx4, h⟩ := bind_some h
  refine awp_loop (fun (i1 : Int) => (⟨[(1, (.clo 41 [] [])), (7, (Q120 a_list)), (8, (Q121 a_list)), (9, (.int .i64 i1))], []⟩ : St)) _ (fun (x_ : (Unit ⊕ Bool)) (e : Exit) (st : St) => match x_ with | (.inl _) => e = (.exit 0) ∧ Le Γ st (⟨[], []⟩ : St) | (.inr r_) => e = .ret ∧ retK Try.prog Try.f40.results.toList [] (.bool r_) [] e st) ?_ hx4 ?_
  · intro i1 y h
    unfold m_code_allFit_api_Phi_L1 at h
    refine awp_seq ?_
    refine awp_region (rs := []) (cs := []) (live := [1, 7, 8, 9, 10]) (names := []) (st' := (⟨[(1, (.clo 41 [] [])), (7, (Q120 a_list)), (8, (Q121 a_list)), (9, (.int .i64 i1)), (10, (.bool (decide ((i1 : Int) < (a_list.length : Int)))))], []⟩ : St)) (obs := []) hn mix (no_hand hΓ) (by kernel_rfl) trivial ?_
    refine then_normal ?_
    refine awp_seq ?_
    refine awp_cond (decide ((i1 : Int) < (a_list.length : Int))) (by kernel_rfl) (fun hb => ?_) (fun hb => ?_)
    · replace h := cond_t hb h
      clear hb
      refine awp_skip ?_
      refine then_normal ?_
      refine awp_seq ?_
      refine awp_block ?_
      refine awp_seq ?_
      obtain ⟨hc2, h⟩ := chk_some h
      refine awp_region (rs := []) (cs := []) (live := [1, 6, 7, 8, 9]) (names := [6]) (st' := (⟨[(1, (.clo 41 [] [])), (6, (.ptr 6 0)), (7, (Q120 a_list)), (8, (Q121 a_list)), (9, (.int .i64 i1))], [(6, .row (Q122 a_list i1))]⟩ : St)) (obs := [(InB i1 a_list.length), (0 + List.length (α := AV) (eTPhi (Q119 a_list i1)) ≤ List.length (α := AV) [(.int .i64 (0 : Int)), (.int .i64 (0 : Int)), (.slice 0 0 (fun _ => []) .exact), (.slice 0 0 (fun _ => []) .exact)])]) hn mix (no_hand hΓ) (by kernel_rfl) ⟨hc2, (nl rfl), trivial⟩ ?_
      refine then_normal ?_
      refine awp_seq ?_
      obtain ⟨x3, hx3, h⟩ := bind_some h
      refine awp_region (rs := [⟨[], [], (.bool x3), []⟩]) (cs := []) (live := [1, 7, 8, 9, 16]) (names := []) (st' := (⟨[(1, (.clo 41 [] [])), (7, (Q120 a_list)), (8, (Q121 a_list)), (9, (.int .i64 i1)), (16, (.bool (!x3)))], []⟩ : St)) (obs := [(0 + 4 ≤ List.length (α := AV) (Q122 a_list i1)), (Spec Try.prog 41 [(.agg (eTPhi (Q119 a_list i1)))] [] (.bool x3) [])]) hn mix (no_hand hΓ) (by kernel_rfl) ⟨(nl rfl), (ok_code_phiFits (Q119 a_list i1) x3 hx3), trivial⟩ ?_
      refine then_normal ?_
      refine awp_cond (!x3) (by kernel_rfl) (fun hb => ?_) (fun hb => ?_)
      · replace h := cond_t hb h
        clear hb
        refine awp_seq ?_
        refine awp_region (rs := []) (cs := []) (live := [4]) (names := []) (st' := (⟨[(4, (.bool false))], []⟩ : St)) (obs := []) hn mix (no_hand hΓ) (by kernel_rfl) trivial ?_
        refine then_normal ?_
        refine awp_ret ?_
        refine block_ret ?_
        refine then_ret ?_
        obtain rfl := Option.some.inj h
        exact ⟨(by intro hh; cases hh), rfl, ⟨.inl rfl, [], by kernel_rfl⟩⟩
      · replace h := cond_f hb h
        clear hb
        refine awp_skip ?_
        refine block_normal ?_
        refine then_normal ?_
        refine awp_region (rs := []) (cs := []) (live := [1, 7, 8, 9]) (names := []) (st' := (⟨[(1, (.clo 41 [] [])), (7, (Q120 a_list)), (8, (Q121 a_list)), (9, (.int .i64 (w64 (i1 + (1 : Int)))))], []⟩ : St)) (obs := []) hn mix (no_hand hΓ) (by kernel_rfl) trivial ?_
        obtain rfl := Option.some.inj h
        exact ⟨rfl, Le.refl _ _⟩
    · replace h := cond_f hb h
      clear hb
      refine awp_exit ?_
      refine then_exit ?_
      obtain rfl := Option.some.inj h
      exact ⟨(by intro hh; cases hh), rfl, le_restrict_eq [] [] (by kernel_rfl) (no_hand hΓ)⟩
  · clear hx4
    rcases x4 with _ | r6
    · rintro e st' ⟨rfl, hl5⟩
      refine block_here ?_
      refine then_normal ?_
      refine awp_le hl5 ?_
      refine awp_seq ?_
      refine awp_region (rs := []) (cs := []) (live := [4]) (names := []) (st' := (⟨[(4, (.bool true))], []⟩ : St)) (obs := []) hn mix (no_hand hΓ) (by kernel_rfl) trivial ?_
      refine then_normal ?_
      refine awp_ret ?_
      obtain rfl := Option.some.inj h
      exact ⟨.inl rfl, [], by kernel_rfl⟩
    · rintro e st' ⟨rfl, hk⟩
      refine block_ret ?_
      refine then_ret ?_
      obtain rfl := Option.some.inj h
      exact hk

noncomputable def Q124 (a_o : TOp) := ([a_o.Kind, a_o.Bits, a_o.Lanes, a_o.Dst] : List (Int))
noncomputable def Q123 (a_o : TOp) : List AV := [(.int .i64 a_o.Kind), (.int .i64 a_o.Bits), (.int .i64 a_o.Lanes), (.int .i64 a_o.Dst), (AV.list 1 eI64 (0 : Int) a_o.Args .none), (.int .u64 a_o.Imm)]
noncomputable def m_code_opFits (a_o : TOp) : Option Bool :=
  ((m_code_numbersFit ([a_o.Kind, a_o.Bits, a_o.Lanes, a_o.Dst] : List (Int))).bind fun x1 => ((bif (x1 == true) then m_code_listFits a_o.Args else some false).bind fun x2 => (some (bif x1 then x2 else false))))
theorem ok_code_opFits (a_o : TOp) (r : Bool) (h : m_code_opFits a_o = some r) : Spec Try.prog 43 [(.agg (eTOp a_o))] [] (.bool r) [] := by
  refine spec_of_awp (fn := Try.f43) Try.func43 rfl rfl (by kernel_rfl) (fun Γ hn hΓ => ?_)
  have hn : Γ.n = 18 := hn
  unfold m_code_opFits at h
  refine awp_seq ?_
  refine awp_region (rs := []) (cs := []) (live := [1]) (names := [1]) (st' := (⟨[(1, (.ptr 1 0))], [(1, .row (Q123 a_o))]⟩ : St)) (obs := []) hn mix (no_hand hΓ) (by kernel_rfl) trivial ?_
  refine then_normal ?_
  refine awp_seq ?_
  obtain ⟨x1, hx1, h⟩ := bind_some h
  obtain ⟨x2, hx2, h⟩ := bind_some h
  refine awp_region (rs := [⟨[], [], (.bool x1), []⟩, ⟨[], [], (.bool x2), []⟩]) (cs := [(11, (AV.list 1 eI64 (0 : Int) (Q124 a_o) .exact))]) (live := [2]) (names := []) (st' := (⟨[(2, (.bool (bif x1 then x2 else false)))], []⟩ : St)) (obs := [(0 < List.length (α := AV) (Q123 a_o)), (1 < List.length (α := AV) (Q123 a_o)), (2 < List.length (α := AV) (Q123 a_o)), (3 < List.length (α := AV) (Q123 a_o)), (AVle (.slice 1 4 (fun i => ([[(.int .i64 a_o.Kind)], [(.int .i64 a_o.Bits)], [(.int .i64 a_o.Lanes)], [(.int .i64 a_o.Dst)]] : List (List AV)).getD i []) .exact) (AV.list 1 eI64 (0 : Int) (Q124 a_o) .exact)), (Spec Try.prog 25 [(AV.list 1 eI64 (0 : Int) (Q124 a_o) .none)] [] (.bool x1) []), ((x1 == true) = true → (x1 == true) = true), ((x1 == true) = true → (4 < List.length (α := AV) (Q123 a_o))), ((x1 == true) = true → (x1 == true) = true), ((x1 == true) = true → (Spec Try.prog 54 [(AV.list 1 eI64 (0 : Int) a_o.Args .none)] [] (.bool x2) [])), (x1 = true → (x1 == true) = true)]) hn mix (no_hand hΓ) (by kernel_rfl) ⟨(nl rfl), (nl rfl), (nl rfl), (nl rfl), (av_lit rfl (fun i hi => map_get (e := eI64) (d := (0 : Int)) (Q124 a_o) i hi)), (ok_code_numbersFit (Q124 a_o) x1 hx1), (fun hg => hg), (fun hg => (nl rfl)), (fun hg => hg), (fun hg => (ok_code_listFits a_o.Args x2 (cond_t hg hx2))), gT, trivial⟩ ?_
  refine then_normal ?_
  refine awp_ret ?_
  obtain rfl := Option.some.inj h
  exact ⟨.inl rfl, [], by kernel_rfl⟩

noncomputable def m_code_allFit_api_Op_L1 (a_list : List (TOp)) : Int → Option (LR Int (Unit ⊕ Bool)) :=
  fun (i1 : Int) => (bif (decide ((i1 : Int) < (a_list.length : Int))) then (chk (InB i1 a_list.length) ((m_code_opFits (a_list.getD (i1).toNat (default : TOp))).bind fun x3 => (bif (!x3) then (some (.done (.inr false))) else (some (.next (w64 (i1 + (1 : Int)))))))) else (some (.done (.inl ()))))
noncomputable def Q127 (a_list : List (TOp)) : AV := (.int .i64 (a_list.length : Int))
noncomputable def Q125 (a_list : List (TOp)) (i1 : Int) := (a_list.getD (i1).toNat (default : TOp))
noncomputable def Q126 (a_list : List (TOp)) : AV := (AV.list 6 eTOp (default : TOp) a_list .none)
noncomputable def Q128 (a_list : List (TOp)) (i1 : Int) : List AV := [(.int .i64 (Q125 a_list i1).Kind), (.int .i64 (Q125 a_list i1).Bits), (.int .i64 (Q125 a_list i1).Lanes), (.int .i64 (Q125 a_list i1).Dst), (AV.list 1 eI64 (0 : Int) (Q125 a_list i1).Args .none), (.int .u64 (Q125 a_list i1).Imm)]
noncomputable def m_code_allFit_api_Op (a_list : List (TOp)) : Option Bool :=
  ((loopO (S := Int) (X := (Unit ⊕ Bool)) (m_code_allFit_api_Op_L1 a_list) (0 : Int)).bind (fun x4 => (match x4 with | (.inl _) => (some true) | (.inr r6) => (some r6))))
theorem ok_code_allFit_api_Op (a_list : List (TOp)) (r : Bool) (h : m_code_allFit_api_Op a_list = some r) : Spec Try.prog 42 [(AV.list 6 eTOp (default : TOp) a_list .none), (.clo 43 [] [])] [] (.bool r) [] := by
  refine spec_of_awp (fn := Try.f42) Try.func42 rfl rfl (by kernel_rfl) (fun Γ hn hΓ => ?_)
  have hn : Γ.n = 18 := hn
  unfold m_code_allFit_api_Op at h
  refine awp_seq ?_
  refine awp_region (rs := []) (cs := []) (live := [0, 1]) (names := []) (st' := (⟨[(0, (Q126 a_list)), (1, (.clo 43 [] []))], []⟩ : St)) (obs := []) hn mix (no_hand hΓ) (by kernel_rfl) trivial ?_
  refine then_normal ?_
  refine awp_seq ?_
  refine awp_seq ?_
  refine awp_region (rs := []) (cs := []) (live := [1, 7, 8, 9]) (names := []) (st' := (⟨[(1, (.clo 43 [] [])), (7, (Q126 a_list)), (8, (Q127 a_list)), (9, (.int .i64 (0 : Int)))], []⟩ : St)) (obs := []) hn mix (no_hand hΓ) (by kernel_rfl) trivial ?_
  refine then_normal ?_
  refine awp_block ?_
  refine awp_le (st' := (fun (i1 : Int) => (⟨[(1, (.clo 43 [] [])), (7, (Q126 a_list)), (8, (Q127 a_list)), (9, (.int .i64 i1))], []⟩ : St)) (0 : Int)) (Le.refl _ _) ?_
  obtain ⟨x4, hx4, h⟩ := bind_some h
  refine awp_loop (fun (i1 : Int) => (⟨[(1, (.clo 43 [] [])), (7, (Q126 a_list)), (8, (Q127 a_list)), (9, (.int .i64 i1))], []⟩ : St)) _ (fun (x_ : (Unit ⊕ Bool)) (e : Exit) (st : St) => match x_ with | (.inl _) => e = (.exit 0) ∧ Le Γ st (⟨[], []⟩ : St) | (.inr r_) => e = .ret ∧ retK Try.prog Try.f42.results.toList [] (.bool r_) [] e st) ?_ hx4 ?_
  · intro i1 y h
    unfold m_code_allFit_api_Op_L1 at h
    refine awp_seq ?_
    refine awp_region (rs := []) (cs := []) (live := [1, 7, 8, 9, 10]) (names := []) (st' := (⟨[(1, (.clo 43 [] [])), (7, (Q126 a_list)), (8, (Q127 a_list)), (9, (.int .i64 i1)), (10, (.bool (decide ((i1 : Int) < (a_list.length : Int)))))], []⟩ : St)) (obs := []) hn mix (no_hand hΓ) (by kernel_rfl) trivial ?_
    refine then_normal ?_
    refine awp_seq ?_
    refine awp_cond (decide ((i1 : Int) < (a_list.length : Int))) (by kernel_rfl) (fun hb => ?_) (fun hb => ?_)
    · replace h := cond_t hb h
      clear hb
      refine awp_skip ?_
      refine then_normal ?_
      refine awp_seq ?_
      refine awp_block ?_
      refine awp_seq ?_
      obtain ⟨hc2, h⟩ := chk_some h
      refine awp_region (rs := []) (cs := []) (live := [1, 6, 7, 8, 9]) (names := [6]) (st' := (⟨[(1, (.clo 43 [] [])), (6, (.ptr 6 0)), (7, (Q126 a_list)), (8, (Q127 a_list)), (9, (.int .i64 i1))], [(6, .row (Q128 a_list i1))]⟩ : St)) (obs := [(InB i1 a_list.length), (0 + List.length (α := AV) (eTOp (Q125 a_list i1)) ≤ List.length (α := AV) [(.int .i64 (0 : Int)), (.int .i64 (0 : Int)), (.int .i64 (0 : Int)), (.int .i64 (0 : Int)), (.slice 0 0 (fun _ => []) .exact), (.int .u64 (0 : Int))])]) hn mix (no_hand hΓ) (by kernel_rfl) ⟨hc2, (nl rfl), trivial⟩ ?_
      refine then_normal ?_
      refine awp_seq ?_
      obtain ⟨x3, hx3, h⟩ := bind_some h
      refine awp_region (rs := [⟨[], [], (.bool x3), []⟩]) (cs := []) (live := [1, 7, 8, 9, 16]) (names := []) (st' := (⟨[(1, (.clo 43 [] [])), (7, (Q126 a_list)), (8, (Q127 a_list)), (9, (.int .i64 i1)), (16, (.bool (!x3)))], []⟩ : St)) (obs := [(0 + 6 ≤ List.length (α := AV) (Q128 a_list i1)), (Spec Try.prog 43 [(.agg (eTOp (Q125 a_list i1)))] [] (.bool x3) [])]) hn mix (no_hand hΓ) (by kernel_rfl) ⟨(nl rfl), (ok_code_opFits (Q125 a_list i1) x3 hx3), trivial⟩ ?_
      refine then_normal ?_
      refine awp_cond (!x3) (by kernel_rfl) (fun hb => ?_) (fun hb => ?_)
      · replace h := cond_t hb h
        clear hb
        refine awp_seq ?_
        refine awp_region (rs := []) (cs := []) (live := [4]) (names := []) (st' := (⟨[(4, (.bool false))], []⟩ : St)) (obs := []) hn mix (no_hand hΓ) (by kernel_rfl) trivial ?_
        refine then_normal ?_
        refine awp_ret ?_
        refine block_ret ?_
        refine then_ret ?_
        obtain rfl := Option.some.inj h
        exact ⟨(by intro hh; cases hh), rfl, ⟨.inl rfl, [], by kernel_rfl⟩⟩
      · replace h := cond_f hb h
        clear hb
        refine awp_skip ?_
        refine block_normal ?_
        refine then_normal ?_
        refine awp_region (rs := []) (cs := []) (live := [1, 7, 8, 9]) (names := []) (st' := (⟨[(1, (.clo 43 [] [])), (7, (Q126 a_list)), (8, (Q127 a_list)), (9, (.int .i64 (w64 (i1 + (1 : Int)))))], []⟩ : St)) (obs := []) hn mix (no_hand hΓ) (by kernel_rfl) trivial ?_
        obtain rfl := Option.some.inj h
        exact ⟨rfl, Le.refl _ _⟩
    · replace h := cond_f hb h
      clear hb
      refine awp_exit ?_
      refine then_exit ?_
      obtain rfl := Option.some.inj h
      exact ⟨(by intro hh; cases hh), rfl, le_restrict_eq [] [] (by kernel_rfl) (no_hand hΓ)⟩
  · clear hx4
    rcases x4 with _ | r6
    · rintro e st' ⟨rfl, hl5⟩
      refine block_here ?_
      refine then_normal ?_
      refine awp_le hl5 ?_
      refine awp_seq ?_
      refine awp_region (rs := []) (cs := []) (live := [4]) (names := []) (st' := (⟨[(4, (.bool true))], []⟩ : St)) (obs := []) hn mix (no_hand hΓ) (by kernel_rfl) trivial ?_
      refine then_normal ?_
      refine awp_ret ?_
      obtain rfl := Option.some.inj h
      exact ⟨.inl rfl, [], by kernel_rfl⟩
    · rintro e st' ⟨rfl, hk⟩
      refine block_ret ?_
      refine then_ret ?_
      obtain rfl := Option.some.inj h
      exact hk

noncomputable def Q129 (a_e : TEnd) : List AV := [(.int .i64 a_e.Kind), (.int .i64 a_e.Arg), (AV.list 1 eI64 (0 : Int) a_e.To .none)]
noncomputable def m_code_endFits (a_e : TEnd) : Option Bool :=
  ((m_code_numbersFit ([a_e.Kind, a_e.Arg] : List (Int))).bind fun x1 => ((bif (x1 == true) then m_code_listFits a_e.To else some false).bind fun x2 => (some (bif x1 then x2 else false))))
theorem ok_code_endFits (a_e : TEnd) (r : Bool) (h : m_code_endFits a_e = some r) : Spec Try.prog 44 [(.agg (eTEnd a_e))] [] (.bool r) [] := by
  refine spec_of_awp (fn := Try.f44) Try.func44 rfl rfl (by kernel_rfl) (fun Γ hn hΓ => ?_)
  have hn : Γ.n = 14 := hn
  unfold m_code_endFits at h
  refine awp_seq ?_
  refine awp_region (rs := []) (cs := []) (live := [1]) (names := [1]) (st' := (⟨[(1, (.ptr 1 0))], [(1, .row (Q129 a_e))]⟩ : St)) (obs := []) hn mix (no_hand hΓ) (by kernel_rfl) trivial ?_
  refine then_normal ?_
  refine awp_seq ?_
  obtain ⟨x1, hx1, h⟩ := bind_some h
  obtain ⟨x2, hx2, h⟩ := bind_some h
  refine awp_region (rs := [⟨[], [], (.bool x1), []⟩, ⟨[], [], (.bool x2), []⟩]) (cs := [(7, (AV.list 1 eI64 (0 : Int) ([a_e.Kind, a_e.Arg] : List (Int)) .exact))]) (live := [2]) (names := []) (st' := (⟨[(2, (.bool (bif x1 then x2 else false)))], []⟩ : St)) (obs := [(0 < List.length (α := AV) (Q129 a_e)), (1 < List.length (α := AV) (Q129 a_e)), (AVle (.slice 1 2 (fun i => ([[(.int .i64 a_e.Kind)], [(.int .i64 a_e.Arg)]] : List (List AV)).getD i []) .exact) (AV.list 1 eI64 (0 : Int) ([a_e.Kind, a_e.Arg] : List (Int)) .exact)), (Spec Try.prog 25 [(AV.list 1 eI64 (0 : Int) ([a_e.Kind, a_e.Arg] : List (Int)) .none)] [] (.bool x1) []), ((x1 == true) = true → (x1 == true) = true), ((x1 == true) = true → (2 < List.length (α := AV) (Q129 a_e))), ((x1 == true) = true → (x1 == true) = true), ((x1 == true) = true → (Spec Try.prog 54 [(AV.list 1 eI64 (0 : Int) a_e.To .none)] [] (.bool x2) [])), (x1 = true → (x1 == true) = true)]) hn mix (no_hand hΓ) (by kernel_rfl) ⟨(nl rfl), (nl rfl), (av_lit rfl (fun i hi => map_get (e := eI64) (d := (0 : Int)) ([a_e.Kind, a_e.Arg] : List (Int)) i hi)), (ok_code_numbersFit ([a_e.Kind, a_e.Arg] : List (Int)) x1 hx1), (fun hg => hg), (fun hg => (nl rfl)), (fun hg => hg), (fun hg => (ok_code_listFits a_e.To x2 (cond_t hg hx2))), gT, trivial⟩ ?_
  refine then_normal ?_
  refine awp_ret ?_
  obtain rfl := Option.some.inj h
  exact ⟨.inl rfl, [], by kernel_rfl⟩

noncomputable def Q131 (x1 : Bool) (x2 : Bool) := ((bif x1 then x2 else false) == true)
noncomputable def Q130 (a_k : TBlock) : List AV := [(AV.list 4 eTPhi (default : TPhi) a_k.Phis .none), (AV.list 6 eTOp (default : TOp) a_k.Ops .none), (.int .i64 a_k.End.Kind), (.int .i64 a_k.End.Arg), (AV.list 1 eI64 (0 : Int) a_k.End.To .none)]
noncomputable def m_code_blockFits (a_k : TBlock) : Option Bool :=
  ((m_code_allFit_api_Phi a_k.Phis).bind fun x1 => ((bif (x1 == true) then m_code_allFit_api_Op a_k.Ops else some false).bind fun x2 => ((bif ((bif x1 then x2 else false) == true) then m_code_endFits (⟨a_k.End.Kind, a_k.End.Arg, a_k.End.To⟩ : TEnd) else some false).bind fun x3 => (some (bif (bif x1 then x2 else false) then x3 else false)))))
theorem ok_code_blockFits (a_k : TBlock) (r : Bool) (h : m_code_blockFits a_k = some r) : Spec Try.prog 27 [(.agg (eTBlock a_k))] [] (.bool r) [] := by
  refine spec_of_awp (fn := Try.f27) Try.func27 rfl rfl (by kernel_rfl) (fun Γ hn hΓ => ?_)
  have hn : Γ.n = 16 := hn
  unfold m_code_blockFits at h
  refine awp_seq ?_
  refine awp_region (rs := []) (cs := []) (live := [1]) (names := [1]) (st' := (⟨[(1, (.ptr 1 0))], [(1, .row (Q130 a_k))]⟩ : St)) (obs := []) hn mix (no_hand hΓ) (by kernel_rfl) trivial ?_
  refine then_normal ?_
  refine awp_seq ?_
  obtain ⟨x1, hx1, h⟩ := bind_some h
  obtain ⟨x2, hx2, h⟩ := bind_some h
  obtain ⟨x3, hx3, h⟩ := bind_some h
  refine awp_region (rs := [⟨[], [], (.bool x1), []⟩, ⟨[], [], (.bool x2), []⟩, ⟨[], [], (.bool x3), []⟩]) (cs := []) (live := [2]) (names := []) (st' := (⟨[(2, (.bool (bif (bif x1 then x2 else false) then x3 else false)))], []⟩ : St)) (obs := [(0 < List.length (α := AV) (Q130 a_k)), (Spec Try.prog 40 [(AV.list 4 eTPhi (default : TPhi) a_k.Phis .none), (.clo 41 [] [])] [] (.bool x1) []), ((x1 == true) = true → (x1 == true) = true), ((x1 == true) = true → (1 < List.length (α := AV) (Q130 a_k))), ((x1 == true) = true → (x1 == true) = true), ((x1 == true) = true → (Spec Try.prog 42 [(AV.list 6 eTOp (default : TOp) a_k.Ops .none), (.clo 43 [] [])] [] (.bool x2) [])), (x1 = true → (x1 == true) = true), ((Q131 x1 x2) = true → (Q131 x1 x2) = true), ((Q131 x1 x2) = true → (2 + 3 ≤ List.length (α := AV) (Q130 a_k))), ((Q131 x1 x2) = true → (Q131 x1 x2) = true), ((Q131 x1 x2) = true → (Spec Try.prog 44 [(.agg [(.int .i64 a_k.End.Kind), (.int .i64 a_k.End.Arg), (AV.list 1 eI64 (0 : Int) a_k.End.To .none)])] [] (.bool x3) [])), ((bif x1 then x2 else false) = true → (Q131 x1 x2) = true)]) hn mix (no_hand hΓ) (by kernel_rfl) ⟨(nl rfl), (ok_code_allFit_api_Phi a_k.Phis x1 hx1), (fun hg => hg), (fun hg => (nl rfl)), (fun hg => hg), (fun hg => (ok_code_allFit_api_Op a_k.Ops x2 (cond_t hg hx2))), gT, (fun hg => hg), (fun hg => (nl rfl)), (fun hg => hg), (fun hg => (ok_code_endFits (⟨a_k.End.Kind, a_k.End.Arg, a_k.End.To⟩ : TEnd) x3 (cond_t hg hx3))), gT, trivial⟩ ?_
  refine then_normal ?_
  refine awp_ret ?_
  obtain rfl := Option.some.inj h
  exact ⟨.inl rfl, [], by kernel_rfl⟩

noncomputable def m_code_allFit_api_Block_L1 (a_list : List (TBlock)) : Int → Option (LR Int (Unit ⊕ Bool)) :=
  fun (i1 : Int) => (bif (decide ((i1 : Int) < (a_list.length : Int))) then (chk (InB i1 a_list.length) ((m_code_blockFits (a_list.getD (i1).toNat (default : TBlock))).bind fun x3 => (bif (!x3) then (some (.done (.inr false))) else (some (.next (w64 (i1 + (1 : Int)))))))) else (some (.done (.inl ()))))
noncomputable def Q134 (a_list : List (TBlock)) : AV := (.int .i64 (a_list.length : Int))
noncomputable def Q132 (a_list : List (TBlock)) (i1 : Int) := (a_list.getD (i1).toNat (default : TBlock))
noncomputable def Q133 (a_list : List (TBlock)) : AV := (AV.list 5 eTBlock (default : TBlock) a_list .none)
noncomputable def Q135 (a_list : List (TBlock)) (i1 : Int) : List AV := [(AV.list 4 eTPhi (default : TPhi) (Q132 a_list i1).Phis .none), (AV.list 6 eTOp (default : TOp) (Q132 a_list i1).Ops .none), (.int .i64 (Q132 a_list i1).End.Kind), (.int .i64 (Q132 a_list i1).End.Arg), (AV.list 1 eI64 (0 : Int) (Q132 a_list i1).End.To .none)]
noncomputable def m_code_allFit_api_Block (a_list : List (TBlock)) : Option Bool :=
  ((loopO (S := Int) (X := (Unit ⊕ Bool)) (m_code_allFit_api_Block_L1 a_list) (0 : Int)).bind (fun x4 => (match x4 with | (.inl _) => (some true) | (.inr r6) => (some r6))))
theorem ok_code_allFit_api_Block (a_list : List (TBlock)) (r : Bool) (h : m_code_allFit_api_Block a_list = some r) : Spec Try.prog 26 [(AV.list 5 eTBlock (default : TBlock) a_list .none), (.clo 27 [] [])] [] (.bool r) [] := by
  refine spec_of_awp (fn := Try.f26) Try.func26 rfl rfl (by kernel_rfl) (fun Γ hn hΓ => ?_)
  have hn : Γ.n = 18 := hn
  unfold m_code_allFit_api_Block at h
  refine awp_seq ?_
  refine awp_region (rs := []) (cs := []) (live := [0, 1]) (names := []) (st' := (⟨[(0, (Q133 a_list)), (1, (.clo 27 [] []))], []⟩ : St)) (obs := []) hn mix (no_hand hΓ) (by kernel_rfl) trivial ?_
  refine then_normal ?_
  refine awp_seq ?_
  refine awp_seq ?_
  refine awp_region (rs := []) (cs := []) (live := [1, 7, 8, 9]) (names := []) (st' := (⟨[(1, (.clo 27 [] [])), (7, (Q133 a_list)), (8, (Q134 a_list)), (9, (.int .i64 (0 : Int)))], []⟩ : St)) (obs := []) hn mix (no_hand hΓ) (by kernel_rfl) trivial ?_
  refine then_normal ?_
  refine awp_block ?_
  refine awp_le (st' := (fun (i1 : Int) => (⟨[(1, (.clo 27 [] [])), (7, (Q133 a_list)), (8, (Q134 a_list)), (9, (.int .i64 i1))], []⟩ : St)) (0 : Int)) (Le.refl _ _) ?_
  obtain ⟨x4, hx4, h⟩ := bind_some h
  refine awp_loop (fun (i1 : Int) => (⟨[(1, (.clo 27 [] [])), (7, (Q133 a_list)), (8, (Q134 a_list)), (9, (.int .i64 i1))], []⟩ : St)) _ (fun (x_ : (Unit ⊕ Bool)) (e : Exit) (st : St) => match x_ with | (.inl _) => e = (.exit 0) ∧ Le Γ st (⟨[], []⟩ : St) | (.inr r_) => e = .ret ∧ retK Try.prog Try.f26.results.toList [] (.bool r_) [] e st) ?_ hx4 ?_
  · intro i1 y h
    unfold m_code_allFit_api_Block_L1 at h
    refine awp_seq ?_
    refine awp_region (rs := []) (cs := []) (live := [1, 7, 8, 9, 10]) (names := []) (st' := (⟨[(1, (.clo 27 [] [])), (7, (Q133 a_list)), (8, (Q134 a_list)), (9, (.int .i64 i1)), (10, (.bool (decide ((i1 : Int) < (a_list.length : Int)))))], []⟩ : St)) (obs := []) hn mix (no_hand hΓ) (by kernel_rfl) trivial ?_
    refine then_normal ?_
    refine awp_seq ?_
    refine awp_cond (decide ((i1 : Int) < (a_list.length : Int))) (by kernel_rfl) (fun hb => ?_) (fun hb => ?_)
    · replace h := cond_t hb h
      clear hb
      refine awp_skip ?_
      refine then_normal ?_
      refine awp_seq ?_
      refine awp_block ?_
      refine awp_seq ?_
      obtain ⟨hc2, h⟩ := chk_some h
      refine awp_region (rs := []) (cs := []) (live := [1, 6, 7, 8, 9]) (names := [6]) (st' := (⟨[(1, (.clo 27 [] [])), (6, (.ptr 6 0)), (7, (Q133 a_list)), (8, (Q134 a_list)), (9, (.int .i64 i1))], [(6, .row (Q135 a_list i1))]⟩ : St)) (obs := [(InB i1 a_list.length), (0 + List.length (α := AV) (eTBlock (Q132 a_list i1)) ≤ List.length (α := AV) [(.slice 0 0 (fun _ => []) .exact), (.slice 0 0 (fun _ => []) .exact), (.int .i64 (0 : Int)), (.int .i64 (0 : Int)), (.slice 0 0 (fun _ => []) .exact)])]) hn mix (no_hand hΓ) (by kernel_rfl) ⟨hc2, (nl rfl), trivial⟩ ?_
      refine then_normal ?_
      refine awp_seq ?_
      obtain ⟨x3, hx3, h⟩ := bind_some h
      refine awp_region (rs := [⟨[], [], (.bool x3), []⟩]) (cs := []) (live := [1, 7, 8, 9, 16]) (names := []) (st' := (⟨[(1, (.clo 27 [] [])), (7, (Q133 a_list)), (8, (Q134 a_list)), (9, (.int .i64 i1)), (16, (.bool (!x3)))], []⟩ : St)) (obs := [(0 + 5 ≤ List.length (α := AV) (Q135 a_list i1)), (Spec Try.prog 27 [(.agg (eTBlock (Q132 a_list i1)))] [] (.bool x3) [])]) hn mix (no_hand hΓ) (by kernel_rfl) ⟨(nl rfl), (ok_code_blockFits (Q132 a_list i1) x3 hx3), trivial⟩ ?_
      refine then_normal ?_
      refine awp_cond (!x3) (by kernel_rfl) (fun hb => ?_) (fun hb => ?_)
      · replace h := cond_t hb h
        clear hb
        refine awp_seq ?_
        refine awp_region (rs := []) (cs := []) (live := [4]) (names := []) (st' := (⟨[(4, (.bool false))], []⟩ : St)) (obs := []) hn mix (no_hand hΓ) (by kernel_rfl) trivial ?_
        refine then_normal ?_
        refine awp_ret ?_
        refine block_ret ?_
        refine then_ret ?_
        obtain rfl := Option.some.inj h
        exact ⟨(by intro hh; cases hh), rfl, ⟨.inl rfl, [], by kernel_rfl⟩⟩
      · replace h := cond_f hb h
        clear hb
        refine awp_skip ?_
        refine block_normal ?_
        refine then_normal ?_
        refine awp_region (rs := []) (cs := []) (live := [1, 7, 8, 9]) (names := []) (st' := (⟨[(1, (.clo 27 [] [])), (7, (Q133 a_list)), (8, (Q134 a_list)), (9, (.int .i64 (w64 (i1 + (1 : Int)))))], []⟩ : St)) (obs := []) hn mix (no_hand hΓ) (by kernel_rfl) trivial ?_
        obtain rfl := Option.some.inj h
        exact ⟨rfl, Le.refl _ _⟩
    · replace h := cond_f hb h
      clear hb
      refine awp_exit ?_
      refine then_exit ?_
      obtain rfl := Option.some.inj h
      exact ⟨(by intro hh; cases hh), rfl, le_restrict_eq [] [] (by kernel_rfl) (no_hand hΓ)⟩
  · clear hx4
    rcases x4 with _ | r6
    · rintro e st' ⟨rfl, hl5⟩
      refine block_here ?_
      refine then_normal ?_
      refine awp_le hl5 ?_
      refine awp_seq ?_
      refine awp_region (rs := []) (cs := []) (live := [4]) (names := []) (st' := (⟨[(4, (.bool true))], []⟩ : St)) (obs := []) hn mix (no_hand hΓ) (by kernel_rfl) trivial ?_
      refine then_normal ?_
      refine awp_ret ?_
      obtain rfl := Option.some.inj h
      exact ⟨.inl rfl, [], by kernel_rfl⟩
    · rintro e st' ⟨rfl, hk⟩
      refine block_ret ?_
      refine then_ret ?_
      obtain rfl := Option.some.inj h
      exact hk

noncomputable def Q139 (x2 : Bool) (x3 : Bool) := ((bif x2 then x3 else false) == true)
noncomputable def Q137 (a_f : TFunc) := (decide (((a_f.Blocks.length : Int) : Int) < (1 : Int)))
noncomputable def Q138 (a_f : TFunc) := (decide (((16 : Int) : Int) < (a_f.Params.length : Int)))
noncomputable def Q136 (a_f : TFunc) : List AV := [(AV.list 1 eI64 (0 : Int) a_f.Params .none), (.int .i64 a_f.Ret), (AV.list 5 eTBlock (default : TBlock) a_f.Blocks .none)]
noncomputable def m_code_May (a_f : TFunc) : Option Bool :=
  (bif (bif (decide (((a_f.Blocks.length : Int) : Int) < (1 : Int))) then true else (decide (((64 : Int) : Int) < (a_f.Blocks.length : Int)))) then (some false) else ((bif ((decide (((16 : Int) : Int) < (a_f.Params.length : Int))) == false) then m_code_Size a_f else some (0 : Int)).bind fun x1 => (bif (bif (decide (((16 : Int) : Int) < (a_f.Params.length : Int))) then true else (decide (((512 : Int) : Int) < x1))) then (some false) else ((m_code_numbersFit a_f.Params).bind fun x2 => ((bif (x2 == true) then m_code_numbersFit ([a_f.Ret] : List (Int)) else some false).bind fun x3 => ((bif ((bif x2 then x3 else false) == true) then m_code_allFit_api_Block a_f.Blocks else some false).bind fun x4 => (some (bif (bif x2 then x3 else false) then x4 else false))))))))
theorem ok_code_May (a_f : TFunc) (r : Bool) (h : m_code_May a_f = some r) : Spec Try.prog 11 [(.agg (eTFunc a_f))] [] (.bool r) [] := by
  refine spec_of_awp (fn := Try.f11) Try.func11 rfl rfl (by kernel_rfl) (fun Γ hn hΓ => ?_)
  have hn : Γ.n = 36 := hn
  unfold m_code_May at h
  refine awp_seq ?_
  refine awp_region (rs := []) (cs := []) (live := [1]) (names := [1]) (st' := (⟨[(1, (.ptr 1 0))], [(1, .row (Q136 a_f))]⟩ : St)) (obs := []) hn mix (no_hand hΓ) (by kernel_rfl) trivial ?_
  refine then_normal ?_
  refine awp_seq ?_
  refine awp_seq ?_
  refine awp_region (rs := []) (cs := []) (live := [1, 12]) (names := [1]) (st' := (⟨[(1, (.ptr 1 0)), (12, (.bool (bif (Q137 a_f) then true else (decide (((64 : Int) : Int) < (a_f.Blocks.length : Int))))))], [(1, .row (Q136 a_f))]⟩ : St)) (obs := [(2 < List.length (α := AV) (Q136 a_f)), (((Q137 a_f) == false) = true → ((Q137 a_f) == false) = true), (((Q137 a_f) == false) = true → (2 < List.length (α := AV) (Q136 a_f))), (((Q137 a_f) == false) = true → ((Q137 a_f) == false) = true), (((Q137 a_f) == false) = true → ((Q137 a_f) == false) = true), ((Q137 a_f) = false → ((Q137 a_f) == false) = true)]) hn mix (no_hand hΓ) (by kernel_rfl) ⟨(nl rfl), (fun hg => hg), (fun hg => (nl rfl)), (fun hg => hg), (fun hg => hg), gF, trivial⟩ ?_
  refine then_normal ?_
  refine awp_cond (bif (Q137 a_f) then true else (decide (((64 : Int) : Int) < (a_f.Blocks.length : Int)))) (by kernel_rfl) (fun hb => ?_) (fun hb => ?_)
  · replace h := cond_t hb h
    clear hb
    refine awp_seq ?_
    refine awp_region (rs := []) (cs := []) (live := [2]) (names := []) (st' := (⟨[(2, (.bool false))], []⟩ : St)) (obs := []) hn mix (no_hand hΓ) (by kernel_rfl) trivial ?_
    refine then_normal ?_
    refine awp_ret ?_
    refine then_ret ?_
    obtain rfl := Option.some.inj h
    exact ⟨.inl rfl, [], by kernel_rfl⟩
  · replace h := cond_f hb h
    clear hb
    refine awp_skip ?_
    refine then_normal ?_
    refine awp_seq ?_
    refine awp_seq ?_
    obtain ⟨x1, hx1, h⟩ := bind_some h
    refine awp_region (rs := [⟨[], [], (.int .i64 x1), []⟩]) (cs := []) (live := [1, 21]) (names := [1]) (st' := (⟨[(1, (.ptr 1 0)), (21, (.bool (bif (Q138 a_f) then true else (decide (((512 : Int) : Int) < x1)))))], [(1, .row (Q136 a_f))]⟩ : St)) (obs := [(0 < List.length (α := AV) (Q136 a_f)), (((Q138 a_f) == false) = true → (0 + 3 ≤ List.length (α := AV) (Q136 a_f))), (((Q138 a_f) == false) = true → ((Q138 a_f) == false) = true), (((Q138 a_f) == false) = true → (Spec Try.prog 13 [(.agg (eTFunc a_f))] [] (.int .i64 x1) [])), (((Q138 a_f) == false) = true → ((Q138 a_f) == false) = true), ((Q138 a_f) = false → ((Q138 a_f) == false) = true)]) hn mix (no_hand hΓ) (by kernel_rfl) ⟨(nl rfl), (fun hg => (nl rfl)), (fun hg => hg), (fun hg => (ok_code_Size a_f x1 (cond_t hg hx1))), (fun hg => hg), gF, trivial⟩ ?_
    refine then_normal ?_
    refine awp_cond (bif (Q138 a_f) then true else (decide (((512 : Int) : Int) < x1))) (by kernel_rfl) (fun hb => ?_) (fun hb => ?_)
    · replace h := cond_t hb h
      clear hb
      refine awp_seq ?_
      refine awp_region (rs := []) (cs := []) (live := [2]) (names := []) (st' := (⟨[(2, (.bool false))], []⟩ : St)) (obs := []) hn mix (no_hand hΓ) (by kernel_rfl) trivial ?_
      refine then_normal ?_
      refine awp_ret ?_
      refine then_ret ?_
      obtain rfl := Option.some.inj h
      exact ⟨.inl rfl, [], by kernel_rfl⟩
    · replace h := cond_f hb h
      clear hb
      refine awp_skip ?_
      refine then_normal ?_
      refine awp_seq ?_
      obtain ⟨x2, hx2, h⟩ := bind_some h
      obtain ⟨x3, hx3, h⟩ := bind_some h
      obtain ⟨x4, hx4, h⟩ := bind_some h
      refine awp_region (rs := [⟨[], [], (.bool x2), []⟩, ⟨[], [], (.bool x3), []⟩, ⟨[], [], (.bool x4), []⟩]) (cs := [(28, (AV.list 1 eI64 (0 : Int) ([a_f.Ret] : List (Int)) .exact))]) (live := [2]) (names := []) (st' := (⟨[(2, (.bool (bif (bif x2 then x3 else false) then x4 else false)))], []⟩ : St)) (obs := [(0 < List.length (α := AV) (Q136 a_f)), (Spec Try.prog 25 [(AV.list 1 eI64 (0 : Int) a_f.Params .none)] [] (.bool x2) []), ((x2 == true) = true → (x2 == true) = true), ((x2 == true) = true → (1 < List.length (α := AV) (Q136 a_f))), ((x2 == true) = true → (x2 == true) = true), ((x2 == true) = true → (AVle (.slice 1 1 (fun i => ([[(.int .i64 a_f.Ret)]] : List (List AV)).getD i []) .exact) (AV.list 1 eI64 (0 : Int) ([a_f.Ret] : List (Int)) .exact))), ((x2 == true) = true → (x2 == true) = true), ((x2 == true) = true → (Spec Try.prog 25 [(AV.list 1 eI64 (0 : Int) ([a_f.Ret] : List (Int)) .none)] [] (.bool x3) [])), (x2 = true → (x2 == true) = true), ((Q139 x2 x3) = true → (Q139 x2 x3) = true), ((Q139 x2 x3) = true → (2 < List.length (α := AV) (Q136 a_f))), ((Q139 x2 x3) = true → (Q139 x2 x3) = true), ((Q139 x2 x3) = true → (Spec Try.prog 26 [(AV.list 5 eTBlock (default : TBlock) a_f.Blocks .none), (.clo 27 [] [])] [] (.bool x4) [])), ((bif x2 then x3 else false) = true → (Q139 x2 x3) = true)]) hn mix (no_hand hΓ) (by kernel_rfl) ⟨(nl rfl), (ok_code_numbersFit a_f.Params x2 hx2), (fun hg => hg), (fun hg => (nl rfl)), (fun hg => hg), (fun hg => (av_lit rfl (fun i hi => map_get (e := eI64) (d := (0 : Int)) ([a_f.Ret] : List (Int)) i hi))), (fun hg => hg), (fun hg => (ok_code_numbersFit ([a_f.Ret] : List (Int)) x3 (cond_t hg hx3))), gT, (fun hg => hg), (fun hg => (nl rfl)), (fun hg => hg), (fun hg => (ok_code_allFit_api_Block a_f.Blocks x4 (cond_t hg hx4))), gT, trivial⟩ ?_
      refine then_normal ?_
      refine awp_ret ?_
      obtain rfl := Option.some.inj h
      exact ⟨.inl rfl, [], by kernel_rfl⟩

noncomputable def m_num_Put_F1  : (Int × List (Int)) → Option (LR (Int × List (Int)) (List (Int))) :=
  fun (s_ : (Int × List (Int))) => match s_ with | (i1, l2) => (bif (decide (((128 : Int) : Int) ≤ i1)) then (chk (l2.length + ([(bitsV .or .u8 (wu8 (bitsV .and .u64 i1 (127 : Int))) (128 : Int))] : List (Int)).length ≤ room) (some (.next ((shrV .u64 i1 (7 : Int)), (l2 ++ ([(bitsV .or .u8 (wu8 (bitsV .and .u64 i1 (127 : Int))) (128 : Int))] : List (Int))))))) else (chk (l2.length + ([(wu8 i1)] : List (Int)).length ≤ room) (some (.done (l2 ++ ([(wu8 i1)] : List (Int)))))))
noncomputable def Q144 (i1 : Int) := ([(wu8 i1)] : List (Int))
noncomputable def Q143 (a_v : Int) := ([(wu8 a_v)] : List (Int))
noncomputable def Q142 : AV := (AV.list 1 eU8 (0 : Int) ([] : List Int) .exact)
noncomputable def Q141 (i1 : Int) := ([(bitsV .or .u8 (wu8 (bitsV .and .u64 i1 (127 : Int))) (128 : Int))] : List (Int))
noncomputable def Q146 (l2 : List (Int)) (i1 : Int) : AV := (AV.list 1 eU8 (0 : Int) (l2 ++ (Q141 i1)) (.own 12))
noncomputable def Q140 (a_v : Int) := ([(bitsV .or .u8 (wu8 (bitsV .and .u64 a_v (127 : Int))) (128 : Int))] : List (Int))
noncomputable def Q145 (a_v : Int) : AV := (AV.list 1 eU8 (0 : Int) (([] : List Int) ++ (Q140 a_v)) (.own 12))
noncomputable def Q147 (a_v : Int) : AV := (AV.list 1 eU8 (0 : Int) (([] : List Int) ++ (Q143 a_v)) (.own 19))
noncomputable def m_num_Put (a_v : Int) : Option (List (Int)) :=
  ((scopeO (S := (Int × List (Int))) (X := List (Int)) (bif (decide (((128 : Int) : Int) ≤ a_v)) then (chk (([] : List Int).length + ([(bitsV .or .u8 (wu8 (bitsV .and .u64 a_v (127 : Int))) (128 : Int))] : List (Int)).length ≤ room) (some (.next ((shrV .u64 a_v (7 : Int)), (([] : List Int) ++ ([(bitsV .or .u8 (wu8 (bitsV .and .u64 a_v (127 : Int))) (128 : Int))] : List (Int))))))) else (chk (([] : List Int).length + ([(wu8 a_v)] : List (Int)).length ≤ room) (some (.done (([] : List Int) ++ ([(wu8 a_v)] : List (Int))))))) m_num_Put_F1).bind (fun x7 => ((some x7))))
theorem ok_num_Put (a_v : Int) (r : List (Int)) (h : m_num_Put a_v = some r) : Spec Try.prog 39 [(.int .u64 a_v)] [] (AV.list 1 eU8 (0 : Int) r (.own 20000)) [(20000, .tok 1 5 r.length)] := by
  refine spec_of_awp (fn := Try.f39) Try.func39 rfl rfl (by kernel_rfl) (fun Γ hn hΓ => ?_)
  have hn : Γ.n = 20 := hn
  unfold m_num_Put at h
  refine awp_seq ?_
  refine awp_region (rs := []) (cs := [(2, Q142)]) (live := [0]) (names := []) (st' := (⟨[(0, (.int .u64 a_v))], []⟩ : St)) (obs := [(AVle (.slice 0 0 (fun _ => []) .exact) Q142)]) hn mix (no_hand hΓ) (by kernel_rfl) ⟨av_nil, trivial⟩ ?_
  refine then_normal ?_
  obtain ⟨x7, hx7, h⟩ := bind_some h
  refine awp_scope (S := (Int × List (Int))) (X := List (Int)) (fun (s_ : (Int × List (Int))) => match s_ with | (i1, l2) => 0) (fun (s_ : (Int × List (Int))) => match s_ with | (i1, l2) => (⟨[(0, (.int .u64 i1)), (3, (AV.list 1 eU8 (0 : Int) l2 (.own 12)))], [(12, .tok 1 5 l2.length)]⟩ : St)) _ _ (fun (r_ : List (Int)) (e : Exit) (st : St) => e = .ret ∧ retK Try.prog Try.f39.results.toList [] (AV.list 1 eU8 (0 : Int) r_ (.own 20000)) [(20000, .tok 1 5 r_.length)] e st) ?_ ?_ hx7 ?_
  · clear h hx7
    intro y h
    refine awp_seq ?_
    refine awp_region (rs := []) (cs := [(3, Q142)]) (live := [0, 3]) (names := []) (st' := (⟨[(0, (.int .u64 a_v)), (3, Q142)], []⟩ : St)) (obs := [(AVle (.slice 0 0 (fun _ => []) .exact) Q142)]) hn mix (no_hand hΓ) (by kernel_rfl) ⟨av_nil, trivial⟩ ?_
    refine then_normal ?_
    refine awp_seq ?_
    refine awp_label ?_
    refine then_normal ?_
    refine awp_seq ?_
    refine awp_seq ?_
    refine awp_region (rs := []) (cs := []) (live := [0, 3, 5]) (names := []) (st' := (⟨[(0, (.int .u64 a_v)), (3, Q142), (5, (.bool (decide (((128 : Int) : Int) ≤ a_v))))], []⟩ : St)) (obs := []) hn mix (no_hand hΓ) (by kernel_rfl) trivial ?_
    refine then_normal ?_
    refine awp_cond (decide (((128 : Int) : Int) ≤ a_v)) (by kernel_rfl) (fun hb => ?_) (fun hb => ?_)
    · replace h := cond_t hb h
      clear hb
      refine awp_seq ?_
      obtain ⟨hc3, h⟩ := chk_some h
      refine awp_region (rs := []) (cs := [(11, (AV.list 1 eU8 (0 : Int) (Q140 a_v) .exact)), (12, (Q145 a_v))]) (live := [0, 3]) (names := [12]) (st' := (⟨[(0, (.int .u64 a_v)), (3, (Q145 a_v))], [(12, .tok 1 5 ((([] : List Int) ++ (Q140 a_v)).length))]⟩ : St)) (obs := [(AVle (.slice 1 1 (fun i => ([[(.int .u8 (bitsV .or .u8 (wu8 (bitsV .and .u64 a_v (127 : Int))) (128 : Int)))]] : List (List AV)).getD i []) .exact) (AV.list 1 eU8 (0 : Int) (Q140 a_v) .exact)), (([] : List Int).length + (Q140 a_v).length ≤ room), (AVle (.slice 1 (([] : List Int).length + (Q140 a_v).length) (appF ([] : List Int).length (fun i => eU8 (([] : List Int).getD i (0 : Int))) (fun i => eU8 ((Q140 a_v).getD i (0 : Int)))) (.own 12)) (Q145 a_v)), (([] : List Int).length + (Q140 a_v).length = (([] : List Int) ++ (Q140 a_v)).length)]) hn mix (no_hand hΓ) (by kernel_rfl) ⟨(av_lit rfl (fun i hi => map_get (e := eU8) (d := (0 : Int)) (Q140 a_v) i hi)), hc3, av_app, (len_app _ _), trivial⟩ ?_
      refine then_normal ?_
      refine awp_seq ?_
      refine awp_region (rs := []) (cs := []) (live := [0, 3]) (names := [12]) (st' := (⟨[(0, (.int .u64 (shrV .u64 a_v (7 : Int)))), (3, (Q145 a_v))], [(12, .tok 1 5 ((([] : List Int) ++ (Q140 a_v)).length))]⟩ : St)) (obs := [(0 ≤ (7 : Int))]) hn mix (no_hand hΓ) (by kernel_rfl) ⟨(by decide), trivial⟩ ?_
      refine then_normal ?_
      refine awp_goto ?_
      refine then_goto ?_
      obtain rfl := Option.some.inj h
      exact ⟨rfl, rfl, Le.refl _ _⟩
    · replace h := cond_f hb h
      clear hb
      refine awp_skip ?_
      refine then_normal ?_
      refine awp_seq ?_
      obtain ⟨hc4, h⟩ := chk_some h
      refine awp_region (rs := []) (cs := [(18, (AV.list 1 eU8 (0 : Int) (Q143 a_v) .exact)), (19, (Q147 a_v))]) (live := [2]) (names := [19]) (st' := (⟨[(2, (Q147 a_v))], [(19, .tok 1 5 ((([] : List Int) ++ (Q143 a_v)).length))]⟩ : St)) (obs := [(AVle (.slice 1 1 (fun i => ([[(.int .u8 (wu8 a_v))]] : List (List AV)).getD i []) .exact) (AV.list 1 eU8 (0 : Int) (Q143 a_v) .exact)), (([] : List Int).length + (Q143 a_v).length ≤ room), (AVle (.slice 1 (([] : List Int).length + (Q143 a_v).length) (appF ([] : List Int).length (fun i => eU8 (([] : List Int).getD i (0 : Int))) (fun i => eU8 ((Q143 a_v).getD i (0 : Int)))) (.own 19)) (Q147 a_v)), (([] : List Int).length + (Q143 a_v).length = (([] : List Int) ++ (Q143 a_v)).length)]) hn mix (no_hand hΓ) (by kernel_rfl) ⟨(av_lit rfl (fun i hi => map_get (e := eU8) (d := (0 : Int)) (Q143 a_v) i hi)), hc4, av_app, (len_app _ _), trivial⟩ ?_
      refine then_normal ?_
      refine awp_ret ?_
      obtain rfl := Option.some.inj h
      exact ⟨(by intro l hh; cases hh), rfl, ⟨.inl rfl, [(19, 20000)], by kernel_rfl⟩⟩
  · clear h hx7
    rintro ⟨i1, l2⟩ y rest hf h
    obtain rfl := Option.some.inj hf
    clear hf
    unfold m_num_Put_F1 at h
    refine awp_seq ?_
    refine awp_skip ?_
    refine then_normal ?_
    refine awp_seq ?_
    refine awp_seq ?_
    refine awp_region (rs := []) (cs := []) (live := [0, 3, 5]) (names := [12]) (st' := (⟨[(0, (.int .u64 i1)), (3, (AV.list 1 eU8 (0 : Int) l2 (.own 12))), (5, (.bool (decide (((128 : Int) : Int) ≤ i1))))], [(12, .tok 1 5 l2.length)]⟩ : St)) (obs := []) hn mix (no_hand hΓ) (by kernel_rfl) trivial ?_
    refine then_normal ?_
    refine awp_cond (decide (((128 : Int) : Int) ≤ i1)) (by kernel_rfl) (fun hb => ?_) (fun hb => ?_)
    · replace h := cond_t hb h
      clear hb
      refine awp_seq ?_
      obtain ⟨hc5, h⟩ := chk_some h
      refine awp_region (rs := []) (cs := [(11, (AV.list 1 eU8 (0 : Int) (Q141 i1) .exact)), (12, (Q146 l2 i1))]) (live := [0, 3]) (names := [12]) (st' := (⟨[(0, (.int .u64 i1)), (3, (Q146 l2 i1))], [(12, .tok 1 5 ((l2 ++ (Q141 i1)).length))]⟩ : St)) (obs := [(AVle (.slice 1 1 (fun i => ([[(.int .u8 (bitsV .or .u8 (wu8 (bitsV .and .u64 i1 (127 : Int))) (128 : Int)))]] : List (List AV)).getD i []) .exact) (AV.list 1 eU8 (0 : Int) (Q141 i1) .exact)), (l2.length = l2.length), (l2.length + (Q141 i1).length ≤ room), (AVle (.slice 1 (l2.length + (Q141 i1).length) (appF l2.length (fun i => eU8 (l2.getD i (0 : Int))) (fun i => eU8 ((Q141 i1).getD i (0 : Int)))) (.own 12)) (Q146 l2 i1)), (l2.length + (Q141 i1).length = (l2 ++ (Q141 i1)).length)]) hn mix (no_hand hΓ) (by kernel_rfl) ⟨(av_lit rfl (fun i hi => map_get (e := eU8) (d := (0 : Int)) (Q141 i1) i hi)), rfl, hc5, av_app, (len_app _ _), trivial⟩ ?_
      refine then_normal ?_
      refine awp_seq ?_
      refine awp_region (rs := []) (cs := []) (live := [0, 3]) (names := [12]) (st' := (⟨[(0, (.int .u64 (shrV .u64 i1 (7 : Int)))), (3, (Q146 l2 i1))], [(12, .tok 1 5 ((l2 ++ (Q141 i1)).length))]⟩ : St)) (obs := [(0 ≤ (7 : Int))]) hn mix (no_hand hΓ) (by kernel_rfl) ⟨(by decide), trivial⟩ ?_
      refine then_normal ?_
      refine awp_goto ?_
      refine then_goto ?_
      obtain rfl := Option.some.inj h
      exact ⟨rfl, rfl, Le.refl _ _⟩
    · replace h := cond_f hb h
      clear hb
      refine awp_skip ?_
      refine then_normal ?_
      refine awp_seq ?_
      obtain ⟨hc6, h⟩ := chk_some h
      refine awp_region (rs := []) (cs := [(18, (AV.list 1 eU8 (0 : Int) (Q144 i1) .exact)), (19, (AV.list 1 eU8 (0 : Int) (l2 ++ (Q144 i1)) (.own 12)))]) (live := [2]) (names := [12]) (st' := (⟨[(2, (AV.list 1 eU8 (0 : Int) (l2 ++ (Q144 i1)) (.own 12)))], [(12, .tok 1 5 ((l2 ++ (Q144 i1)).length))]⟩ : St)) (obs := [(AVle (.slice 1 1 (fun i => ([[(.int .u8 (wu8 i1))]] : List (List AV)).getD i []) .exact) (AV.list 1 eU8 (0 : Int) (Q144 i1) .exact)), (l2.length = l2.length), (l2.length + (Q144 i1).length ≤ room), (AVle (.slice 1 (l2.length + (Q144 i1).length) (appF l2.length (fun i => eU8 (l2.getD i (0 : Int))) (fun i => eU8 ((Q144 i1).getD i (0 : Int)))) (.own 12)) (AV.list 1 eU8 (0 : Int) (l2 ++ (Q144 i1)) (.own 12))), (l2.length + (Q144 i1).length = (l2 ++ (Q144 i1)).length)]) hn mix (no_hand hΓ) (by kernel_rfl) ⟨(av_lit rfl (fun i hi => map_get (e := eU8) (d := (0 : Int)) (Q144 i1) i hi)), rfl, hc6, av_app, (len_app _ _), trivial⟩ ?_
      refine then_normal ?_
      refine awp_ret ?_
      obtain rfl := Option.some.inj h
      exact ⟨(by intro l hh; cases hh), rfl, ⟨.inl rfl, [(12, 20000)], by kernel_rfl⟩⟩
  · clear hx7
    rintro e st' ⟨rfl, hk⟩
    obtain rfl := Option.some.inj h
    exact hk

noncomputable def m_num_Row_L1 (a_list : List (Int)) : (List (Int) × Int) → Option (LR (List (Int) × Int) (List (Int) ⊕ List (Int))) :=
  fun ((l2, i3) : (List (Int) × Int)) => (bif (decide ((i3 : Int) < (a_list.length : Int))) then (chk (InB i3 a_list.length) (bif (decide (((a_list.getD (i3).toNat (0 : Int)) : Int) < (0 : Int))) then (some (.done (.inr ([] : List Int)))) else (chk (InB i3 a_list.length) ((m_num_Put (wu64 (a_list.getD (i3).toNat (0 : Int)))).bind fun x7 => (chk (l2.length + x7.length ≤ room) (some (.next ((l2 ++ x7), (w64 (i3 + (1 : Int))))))))))) else (some (.done (.inl l2))))
noncomputable def Q150 (a_list : List (Int)) : AV := (.int .i64 (a_list.length : Int))
noncomputable def Q151 (l2 : List (Int)) : AV := (AV.list 1 eU8 (0 : Int) l2 (.own 8))
noncomputable def Q148 (a_list : List (Int)) : AV := (AV.list 1 eI64 (0 : Int) a_list .none)
noncomputable def Q149 : AV := (AV.list 1 eU8 (0 : Int) ([] : List Int) .exact)
noncomputable def m_num_Row (a_list : List (Int)) : Option (List (Int)) :=
  ((m_num_Put (wu64 (a_list.length : Int))).bind fun x1 => ((loopO (S := (List (Int) × Int)) (X := (List (Int) ⊕ List (Int))) (m_num_Row_L1 a_list) (x1, (0 : Int))).bind (fun x9 => (match x9 with | (.inl l4) => (some l4) | (.inr r11) => (some r11)))))
theorem ok_num_Row (a_list : List (Int)) (r : List (Int)) (h : m_num_Row a_list = some r) : Spec Try.prog 21 [(AV.list 1 eI64 (0 : Int) a_list .none)] [] (AV.list 1 eU8 (0 : Int) r (.own 20000)) [(20000, .tok 1 5 r.length)] := by
  refine spec_of_awp (fn := Try.f21) Try.func21 rfl rfl (by kernel_rfl) (fun Γ hn hΓ => ?_)
  have hn : Γ.n = 29 := hn
  unfold m_num_Row at h
  refine awp_seq ?_
  refine awp_region (rs := []) (cs := [(2, Q149)]) (live := [0]) (names := []) (st' := (⟨[(0, (Q148 a_list))], []⟩ : St)) (obs := [(AVle (.slice 0 0 (fun _ => []) .exact) Q149)]) hn mix (no_hand hΓ) (by kernel_rfl) ⟨av_nil, trivial⟩ ?_
  refine then_normal ?_
  refine awp_seq ?_
  obtain ⟨x1, hx1, h⟩ := bind_some h
  refine awp_region (rs := [⟨[], [(20000, 8)], (AV.list 1 eU8 (0 : Int) x1 (.own 20000)), [(20000, .tok 1 5 x1.length)]⟩]) (cs := []) (live := [0, 3]) (names := [8]) (st' := (⟨[(0, (Q148 a_list)), (3, (AV.list 1 eU8 (0 : Int) x1 (.own 8)))], [(8, .tok 1 5 x1.length)]⟩ : St)) (obs := [(Spec Try.prog 39 [(.int .u64 (wu64 (a_list.length : Int)))] [] (AV.list 1 eU8 (0 : Int) x1 (.own 20000)) [(20000, .tok 1 5 x1.length)])]) hn mix (no_hand hΓ) (by kernel_rfl) ⟨(ok_num_Put (wu64 (a_list.length : Int)) x1 hx1), trivial⟩ ?_
  refine then_normal ?_
  refine awp_seq ?_
  refine awp_seq ?_
  refine awp_region (rs := []) (cs := []) (live := [0, 3, 10, 11]) (names := [8]) (st' := (⟨[(0, (Q148 a_list)), (3, (AV.list 1 eU8 (0 : Int) x1 (.own 8))), (10, (Q150 a_list)), (11, (.int .i64 (0 : Int)))], [(8, .tok 1 5 x1.length)]⟩ : St)) (obs := []) hn mix (no_hand hΓ) (by kernel_rfl) trivial ?_
  refine then_normal ?_
  refine awp_block ?_
  refine awp_le (st' := (fun ((l2, i3) : (List (Int) × Int)) => (⟨[(0, (Q148 a_list)), (3, (Q151 l2)), (10, (Q150 a_list)), (11, (.int .i64 i3))], [(8, .tok 1 5 l2.length)]⟩ : St)) (x1, (0 : Int))) (Le.refl _ _) ?_
  obtain ⟨x9, hx9, h⟩ := bind_some h
  refine awp_loop (fun ((l2, i3) : (List (Int) × Int)) => (⟨[(0, (Q148 a_list)), (3, (Q151 l2)), (10, (Q150 a_list)), (11, (.int .i64 i3))], [(8, .tok 1 5 l2.length)]⟩ : St)) _ (fun (x_ : (List (Int) ⊕ List (Int))) (e : Exit) (st : St) => match x_ with | (.inl l4) => e = (.exit 0) ∧ Le Γ st (⟨[(3, (AV.list 1 eU8 (0 : Int) l4 (.own 8)))], [(8, .tok 1 5 l4.length)]⟩ : St) | (.inr r_) => e = .ret ∧ retK Try.prog Try.f21.results.toList [] (AV.list 1 eU8 (0 : Int) r_ (.own 20000)) [(20000, .tok 1 5 r_.length)] e st) ?_ hx9 ?_
  · rintro ⟨l2, i3⟩ y h
    unfold m_num_Row_L1 at h
    refine awp_seq ?_
    refine awp_region (rs := []) (cs := []) (live := [0, 3, 10, 11, 12]) (names := [8]) (st' := (⟨[(0, (Q148 a_list)), (3, (Q151 l2)), (10, (Q150 a_list)), (11, (.int .i64 i3)), (12, (.bool (decide ((i3 : Int) < (a_list.length : Int)))))], [(8, .tok 1 5 l2.length)]⟩ : St)) (obs := []) hn mix (no_hand hΓ) (by kernel_rfl) trivial ?_
    refine then_normal ?_
    refine awp_seq ?_
    refine awp_cond (decide ((i3 : Int) < (a_list.length : Int))) (by kernel_rfl) (fun hb => ?_) (fun hb => ?_)
    · replace h := cond_t hb h
      clear hb
      refine awp_skip ?_
      refine then_normal ?_
      refine awp_seq ?_
      refine awp_block ?_
      refine awp_seq ?_
      refine awp_region (rs := []) (cs := []) (live := [0, 3, 4, 10, 11]) (names := [8]) (st' := (⟨[(0, (Q148 a_list)), (3, (Q151 l2)), (4, (.int .i64 i3)), (10, (Q150 a_list)), (11, (.int .i64 i3))], [(8, .tok 1 5 l2.length)]⟩ : St)) (obs := []) hn mix (no_hand hΓ) (by kernel_rfl) trivial ?_
      refine then_normal ?_
      refine awp_seq ?_
      refine awp_seq ?_
      obtain ⟨hc5, h⟩ := chk_some h
      refine awp_region (rs := []) (cs := []) (live := [0, 3, 4, 10, 11, 18]) (names := [8]) (st' := (⟨[(0, (Q148 a_list)), (3, (Q151 l2)), (4, (.int .i64 i3)), (10, (Q150 a_list)), (11, (.int .i64 i3)), (18, (.bool (decide (((a_list.getD (i3).toNat (0 : Int)) : Int) < (0 : Int)))))], [(8, .tok 1 5 l2.length)]⟩ : St)) (obs := [(InB i3 a_list.length)]) hn mix (no_hand hΓ) (by kernel_rfl) ⟨hc5, trivial⟩ ?_
      refine then_normal ?_
      refine awp_cond (decide (((a_list.getD (i3).toNat (0 : Int)) : Int) < (0 : Int))) (by kernel_rfl) (fun hb => ?_) (fun hb => ?_)
      · replace h := cond_t hb h
        clear hb
        refine awp_seq ?_
        refine awp_region (rs := []) (cs := [(2, Q149)]) (live := [2]) (names := []) (st' := (⟨[(2, Q149)], []⟩ : St)) (obs := [(AVle (.slice 0 0 (fun _ => []) .exact) Q149)]) hn mix (no_hand hΓ) (by kernel_rfl) ⟨av_nil, trivial⟩ ?_
        refine then_normal ?_
        refine awp_le (st' := (⟨[(2, (AV.list 1 eU8 (0 : Int) ([] : List Int) (.own 6002)))], [(6002, .tok 1 5 (([] : List Int).length))]⟩ : St)) (Le.trans (le_restrict_eq (st' := (⟨[(2, Q149)], []⟩ : St)) [2] [] (by kernel_rfl) (no_hand hΓ)) (Le.trans (le_tag (t := 2) (nm := 6002) (sz' := 1) (fun i => eU8 (([] : List Int).getD i (0 : Int))) 5 rfl rfl (.inl ⟨rfl, rfl⟩)) (le_restrict_eq (st' := (⟨[(2, (AV.list 1 eU8 (0 : Int) ([] : List Int) (.own 6002)))], [(6002, .tok 1 5 (([] : List Int).length))]⟩ : St)) [2] [6002] (by kernel_rfl) (no_hand hΓ)))) ?_
        refine awp_ret ?_
        refine then_ret ?_
        refine block_ret ?_
        refine then_ret ?_
        obtain rfl := Option.some.inj h
        exact ⟨(by intro hh; cases hh), rfl, ⟨.inl rfl, [(6002, 20000)], by kernel_rfl⟩⟩
      · replace h := cond_f hb h
        clear hb
        refine awp_skip ?_
        refine then_normal ?_
        obtain ⟨hc6, h⟩ := chk_some h
        obtain ⟨x7, hx7, h⟩ := bind_some h
        obtain ⟨hc8, h⟩ := chk_some h
        refine awp_region (rs := [⟨[], [(20000, 25)], (AV.list 1 eU8 (0 : Int) x7 (.own 20000)), [(20000, .tok 1 5 x7.length)]⟩]) (cs := [(26, (AV.list 1 eU8 (0 : Int) (l2 ++ x7) (.own 8)))]) (live := [0, 3, 10, 11]) (names := [8]) (st' := (⟨[(0, (Q148 a_list)), (3, (AV.list 1 eU8 (0 : Int) (l2 ++ x7) (.own 8))), (10, (Q150 a_list)), (11, (.int .i64 i3))], [(8, .tok 1 5 ((l2 ++ x7).length))]⟩ : St)) (obs := [(InB i3 a_list.length), (Spec Try.prog 39 [(.int .u64 (wu64 (a_list.getD (i3).toNat (0 : Int))))] [] (AV.list 1 eU8 (0 : Int) x7 (.own 20000)) [(20000, .tok 1 5 x7.length)]), (l2.length = l2.length), (l2.length + x7.length ≤ room), (AVle (.slice 1 (l2.length + x7.length) (appF l2.length (fun i => eU8 (l2.getD i (0 : Int))) (fun i => eU8 (x7.getD i (0 : Int)))) (.own 8)) (AV.list 1 eU8 (0 : Int) (l2 ++ x7) (.own 8))), (l2.length + x7.length = (l2 ++ x7).length)]) hn mix (no_hand hΓ) (by kernel_rfl) ⟨hc6, (ok_num_Put (wu64 (a_list.getD (i3).toNat (0 : Int))) x7 hx7), rfl, hc8, av_app, (len_app _ _), trivial⟩ ?_
        refine block_normal ?_
        refine then_normal ?_
        refine awp_region (rs := []) (cs := []) (live := [0, 3, 10, 11]) (names := [8]) (st' := (⟨[(0, (Q148 a_list)), (3, (AV.list 1 eU8 (0 : Int) (l2 ++ x7) (.own 8))), (10, (Q150 a_list)), (11, (.int .i64 (w64 (i3 + (1 : Int)))))], [(8, .tok 1 5 ((l2 ++ x7).length))]⟩ : St)) (obs := []) hn mix (no_hand hΓ) (by kernel_rfl) trivial ?_
        obtain rfl := Option.some.inj h
        exact ⟨rfl, Le.refl _ _⟩
    · replace h := cond_f hb h
      clear hb
      refine awp_exit ?_
      refine then_exit ?_
      obtain rfl := Option.some.inj h
      exact ⟨(by intro hh; cases hh), rfl, le_restrict_eq [3] [8] (by kernel_rfl) (no_hand hΓ)⟩
  · clear hx9
    rcases x9 with l4 | r11
    · rintro e st' ⟨rfl, hl10⟩
      refine block_here ?_
      refine then_normal ?_
      refine awp_le hl10 ?_
      refine awp_seq ?_
      refine awp_region (rs := []) (cs := []) (live := [2]) (names := [8]) (st' := (⟨[(2, (AV.list 1 eU8 (0 : Int) l4 (.own 8)))], [(8, .tok 1 5 l4.length)]⟩ : St)) (obs := []) hn mix (no_hand hΓ) (by kernel_rfl) trivial ?_
      refine then_normal ?_
      refine awp_ret ?_
      obtain rfl := Option.some.inj h
      exact ⟨.inl rfl, [(8, 20000)], by kernel_rfl⟩
    · rintro e st' ⟨rfl, hk⟩
      refine block_ret ?_
      refine then_ret ?_
      obtain rfl := Option.some.inj h
      exact hk

noncomputable def m_code_put_L1 (a_list : List (Int)) : (List (Int) × Int) → Option (LR (List (Int) × Int) (List (Int))) :=
  fun ((l1, i2) : (List (Int) × Int)) => (bif (decide ((i2 : Int) < (a_list.length : Int))) then (chk (InB i2 a_list.length) ((m_num_Put (wu64 (a_list.getD (i2).toNat (0 : Int)))).bind fun x5 => (chk (l1.length + x5.length ≤ room) (some (.next ((l1 ++ x5), (w64 (i2 + (1 : Int))))))))) else (some (.done l1)))
noncomputable def Q153 (a_list : List (Int)) : AV := (.int .i64 (a_list.length : Int))
noncomputable def Q152 (a_list : List (Int)) : AV := (AV.list 1 eI64 (0 : Int) a_list .none)
noncomputable def m_code_put (a_b : List (Int)) (a_list : List (Int)) : Option (List (Int)) :=
  ((loopO (S := (List (Int) × Int)) (X := List (Int)) (m_code_put_L1 a_list) (a_b, (0 : Int))).bind (fun x7 => ((some x7))))
theorem ok_code_put (a_b : List (Int)) (a_list : List (Int)) (r : List (Int)) (h : m_code_put a_b a_list = some r) : Spec Try.prog 20 [(AV.list 1 eU8 (0 : Int) a_b (.own 32000)), (AV.list 1 eI64 (0 : Int) a_list .none)] [(32000, .tok 1 5 a_b.length)] (AV.list 1 eU8 (0 : Int) r (.own 32000)) [(32000, .tok 1 5 r.length)] := by
  refine spec_of_awp (fn := Try.f20) Try.func20 rfl rfl (by kernel_rfl) (fun Γ hn hΓ => ?_)
  have hn : Γ.n = 20 := hn
  unfold m_code_put at h
  refine awp_seq ?_
  refine awp_region (rs := []) (cs := [(4, (AV.list 1 eU8 (0 : Int) ([] : List Int) .exact))]) (live := [0, 1]) (names := [32000]) (st' := (⟨[(0, (AV.list 1 eU8 (0 : Int) a_b (.own 32000))), (1, (Q152 a_list))], [(32000, .tok 1 5 a_b.length)]⟩ : St)) (obs := [(AVle (.slice 0 0 (fun _ => []) .exact) (AV.list 1 eU8 (0 : Int) ([] : List Int) .exact))]) hn mix (hand_in hΓ rfl) (by kernel_rfl) ⟨av_nil, trivial⟩ ?_
  refine then_normal ?_
  refine awp_seq ?_
  refine awp_seq ?_
  refine awp_region (rs := []) (cs := []) (live := [0, 7, 8, 9]) (names := [32000]) (st' := (⟨[(0, (AV.list 1 eU8 (0 : Int) a_b (.own 32000))), (7, (Q152 a_list)), (8, (Q153 a_list)), (9, (.int .i64 (0 : Int)))], [(32000, .tok 1 5 a_b.length)]⟩ : St)) (obs := []) hn mix (hand_in hΓ rfl) (by kernel_rfl) trivial ?_
  refine then_normal ?_
  refine awp_block ?_
  refine awp_le (st' := (fun ((l1, i2) : (List (Int) × Int)) => (⟨[(0, (AV.list 1 eU8 (0 : Int) l1 (.own 32000))), (7, (Q152 a_list)), (8, (Q153 a_list)), (9, (.int .i64 i2))], [(32000, .tok 1 5 l1.length)]⟩ : St)) (a_b, (0 : Int))) (Le.refl _ _) ?_
  obtain ⟨x7, hx7, h⟩ := bind_some h
  refine awp_loop (fun ((l1, i2) : (List (Int) × Int)) => (⟨[(0, (AV.list 1 eU8 (0 : Int) l1 (.own 32000))), (7, (Q152 a_list)), (8, (Q153 a_list)), (9, (.int .i64 i2))], [(32000, .tok 1 5 l1.length)]⟩ : St)) _ (fun (l3 : List (Int)) (e : Exit) (st : St) => e = (.exit 0) ∧ Le Γ st (⟨[(0, (AV.list 1 eU8 (0 : Int) l3 (.own 32000)))], [(32000, .tok 1 5 l3.length)]⟩ : St)) ?_ hx7 ?_
  · rintro ⟨l1, i2⟩ y h
    unfold m_code_put_L1 at h
    refine awp_seq ?_
    refine awp_region (rs := []) (cs := []) (live := [0, 7, 8, 9, 10]) (names := [32000]) (st' := (⟨[(0, (AV.list 1 eU8 (0 : Int) l1 (.own 32000))), (7, (Q152 a_list)), (8, (Q153 a_list)), (9, (.int .i64 i2)), (10, (.bool (decide ((i2 : Int) < (a_list.length : Int)))))], [(32000, .tok 1 5 l1.length)]⟩ : St)) (obs := []) hn mix (hand_in hΓ rfl) (by kernel_rfl) trivial ?_
    refine then_normal ?_
    refine awp_seq ?_
    refine awp_cond (decide ((i2 : Int) < (a_list.length : Int))) (by kernel_rfl) (fun hb => ?_) (fun hb => ?_)
    · replace h := cond_t hb h
      clear hb
      refine awp_skip ?_
      refine then_normal ?_
      refine awp_seq ?_
      refine awp_block ?_
      refine awp_seq ?_
      obtain ⟨hc4, h⟩ := chk_some h
      refine awp_region (rs := []) (cs := []) (live := [0, 6, 7, 8, 9]) (names := [32000]) (st' := (⟨[(0, (AV.list 1 eU8 (0 : Int) l1 (.own 32000))), (6, (.int .i64 (a_list.getD (i2).toNat (0 : Int)))), (7, (Q152 a_list)), (8, (Q153 a_list)), (9, (.int .i64 i2))], [(32000, .tok 1 5 l1.length)]⟩ : St)) (obs := [(InB i2 a_list.length)]) hn mix (hand_in hΓ rfl) (by kernel_rfl) ⟨hc4, trivial⟩ ?_
      refine then_normal ?_
      obtain ⟨x5, hx5, h⟩ := bind_some h
      obtain ⟨hc6, h⟩ := chk_some h
      refine awp_region (rs := [⟨[], [(20000, 16)], (AV.list 1 eU8 (0 : Int) x5 (.own 20000)), [(20000, .tok 1 5 x5.length)]⟩]) (cs := [(17, (AV.list 1 eU8 (0 : Int) (l1 ++ x5) (.own 32000)))]) (live := [0, 7, 8, 9]) (names := [32000]) (st' := (⟨[(0, (AV.list 1 eU8 (0 : Int) (l1 ++ x5) (.own 32000))), (7, (Q152 a_list)), (8, (Q153 a_list)), (9, (.int .i64 i2))], [(32000, .tok 1 5 ((l1 ++ x5).length))]⟩ : St)) (obs := [(Spec Try.prog 39 [(.int .u64 (wu64 (a_list.getD (i2).toNat (0 : Int))))] [] (AV.list 1 eU8 (0 : Int) x5 (.own 20000)) [(20000, .tok 1 5 x5.length)]), (l1.length = l1.length), (l1.length + x5.length ≤ room), (AVle (.slice 1 (l1.length + x5.length) (appF l1.length (fun i => eU8 (l1.getD i (0 : Int))) (fun i => eU8 (x5.getD i (0 : Int)))) (.own 32000)) (AV.list 1 eU8 (0 : Int) (l1 ++ x5) (.own 32000))), (l1.length + x5.length = (l1 ++ x5).length)]) hn mix (hand_in hΓ rfl) (by kernel_rfl) ⟨(ok_num_Put (wu64 (a_list.getD (i2).toNat (0 : Int))) x5 hx5), rfl, hc6, av_app, (len_app _ _), trivial⟩ ?_
      refine block_normal ?_
      refine then_normal ?_
      refine awp_region (rs := []) (cs := []) (live := [0, 7, 8, 9]) (names := [32000]) (st' := (⟨[(0, (AV.list 1 eU8 (0 : Int) (l1 ++ x5) (.own 32000))), (7, (Q152 a_list)), (8, (Q153 a_list)), (9, (.int .i64 (w64 (i2 + (1 : Int)))))], [(32000, .tok 1 5 ((l1 ++ x5).length))]⟩ : St)) (obs := []) hn mix (hand_in hΓ rfl) (by kernel_rfl) trivial ?_
      obtain rfl := Option.some.inj h
      exact ⟨rfl, Le.refl _ _⟩
    · replace h := cond_f hb h
      clear hb
      refine awp_exit ?_
      refine then_exit ?_
      obtain rfl := Option.some.inj h
      exact ⟨(by intro hh; cases hh), rfl, le_restrict_eq [0] [32000] (by kernel_rfl) (hand_in hΓ rfl)⟩
  · clear hx7
    rintro e st' ⟨rfl, hl8⟩
    refine block_here ?_
    refine then_normal ?_
    refine awp_le hl8 ?_
    refine awp_seq ?_
    refine awp_region (rs := []) (cs := []) (live := [4]) (names := [32000]) (st' := (⟨[(4, (AV.list 1 eU8 (0 : Int) x7 (.own 32000)))], [(32000, .tok 1 5 x7.length)]⟩ : St)) (obs := []) hn mix (hand_in hΓ rfl) (by kernel_rfl) trivial ?_
    refine then_normal ?_
    refine awp_ret ?_
    obtain rfl := Option.some.inj h
    exact ⟨.inl rfl, [(32000, 32000)], by kernel_rfl⟩

noncomputable def Q154 (a_p : TPhi) : List AV := [(.int .i64 a_p.Bits), (.int .i64 a_p.Dst), (AV.list 1 eI64 (0 : Int) a_p.From .none), (AV.list 1 eI64 (0 : Int) a_p.Args .none)]
noncomputable def m_code_putPhi (a_b : List (Int)) (a_p : TPhi) : Option (List (Int)) :=
  ((m_code_put a_b ([a_p.Bits, a_p.Dst] : List (Int))).bind fun x1 => ((m_num_Row a_p.From).bind fun x2 => (chk (x1.length + x2.length ≤ room) ((m_num_Row a_p.Args).bind fun x4 => (chk ((x1 ++ x2).length + x4.length ≤ room) (some ((x1 ++ x2) ++ x4)))))))
theorem ok_code_putPhi (a_b : List (Int)) (a_p : TPhi) (r : List (Int)) (h : m_code_putPhi a_b a_p = some r) : Spec Try.prog 22 [(AV.list 1 eU8 (0 : Int) a_b (.own 32000)), (.agg (eTPhi a_p))] [(32000, .tok 1 5 a_b.length)] (AV.list 1 eU8 (0 : Int) r (.own 32000)) [(32000, .tok 1 5 r.length)] := by
  refine spec_of_awp (fn := Try.f22) Try.func22 rfl rfl (by kernel_rfl) (fun Γ hn hΓ => ?_)
  have hn : Γ.n = 22 := hn
  unfold m_code_putPhi at h
  refine awp_seq ?_
  refine awp_region (rs := []) (cs := [(4, (AV.list 1 eU8 (0 : Int) ([] : List Int) .exact))]) (live := [0, 3]) (names := [3, 32000]) (st' := (⟨[(0, (AV.list 1 eU8 (0 : Int) a_b (.own 32000))), (3, (.ptr 3 0))], [(3, .row (Q154 a_p)), (32000, .tok 1 5 a_b.length)]⟩ : St)) (obs := [(AVle (.slice 0 0 (fun _ => []) .exact) (AV.list 1 eU8 (0 : Int) ([] : List Int) .exact))]) hn mix (hand_in hΓ rfl) (by kernel_rfl) ⟨av_nil, trivial⟩ ?_
  refine then_normal ?_
  refine awp_seq ?_
  obtain ⟨x1, hx1, h⟩ := bind_some h
  refine awp_region (rs := [⟨[(32000, 32000)], [], (AV.list 1 eU8 (0 : Int) x1 (.own 32000)), [(32000, .tok 1 5 x1.length)]⟩]) (cs := [(10, (AV.list 1 eI64 (0 : Int) ([a_p.Bits, a_p.Dst] : List (Int)) .exact))]) (live := [0, 3]) (names := [3, 32000]) (st' := (⟨[(0, (AV.list 1 eU8 (0 : Int) x1 (.own 32000))), (3, (.ptr 3 0))], [(3, .row (Q154 a_p)), (32000, .tok 1 5 x1.length)]⟩ : St)) (obs := [(0 < List.length (α := AV) (Q154 a_p)), (1 < List.length (α := AV) (Q154 a_p)), (AVle (.slice 1 2 (fun i => ([[(.int .i64 a_p.Bits)], [(.int .i64 a_p.Dst)]] : List (List AV)).getD i []) .exact) (AV.list 1 eI64 (0 : Int) ([a_p.Bits, a_p.Dst] : List (Int)) .exact)), (Spec Try.prog 20 [(AV.list 1 eU8 (0 : Int) a_b (.own 32000)), (AV.list 1 eI64 (0 : Int) ([a_p.Bits, a_p.Dst] : List (Int)) .none)] [(32000, .tok 1 5 a_b.length)] (AV.list 1 eU8 (0 : Int) x1 (.own 32000)) [(32000, .tok 1 5 x1.length)])]) hn mix (hand_in hΓ rfl) (by kernel_rfl) ⟨(nl rfl), (nl rfl), (av_lit rfl (fun i hi => map_get (e := eI64) (d := (0 : Int)) ([a_p.Bits, a_p.Dst] : List (Int)) i hi)), (ok_code_put a_b ([a_p.Bits, a_p.Dst] : List (Int)) x1 hx1), trivial⟩ ?_
  refine then_normal ?_
  refine awp_seq ?_
  obtain ⟨x2, hx2, h⟩ := bind_some h
  obtain ⟨hc3, h⟩ := chk_some h
  refine awp_region (rs := [⟨[], [(20000, 15)], (AV.list 1 eU8 (0 : Int) x2 (.own 20000)), [(20000, .tok 1 5 x2.length)]⟩]) (cs := [(16, (AV.list 1 eU8 (0 : Int) (x1 ++ x2) (.own 32000)))]) (live := [0, 3]) (names := [3, 32000]) (st' := (⟨[(0, (AV.list 1 eU8 (0 : Int) (x1 ++ x2) (.own 32000))), (3, (.ptr 3 0))], [(3, .row (Q154 a_p)), (32000, .tok 1 5 ((x1 ++ x2).length))]⟩ : St)) (obs := [(2 < List.length (α := AV) (Q154 a_p)), (Spec Try.prog 21 [(AV.list 1 eI64 (0 : Int) a_p.From .none)] [] (AV.list 1 eU8 (0 : Int) x2 (.own 20000)) [(20000, .tok 1 5 x2.length)]), (x1.length = x1.length), (x1.length + x2.length ≤ room), (AVle (.slice 1 (x1.length + x2.length) (appF x1.length (fun i => eU8 (x1.getD i (0 : Int))) (fun i => eU8 (x2.getD i (0 : Int)))) (.own 32000)) (AV.list 1 eU8 (0 : Int) (x1 ++ x2) (.own 32000))), (x1.length + x2.length = (x1 ++ x2).length)]) hn mix (hand_in hΓ rfl) (by kernel_rfl) ⟨(nl rfl), (ok_num_Row a_p.From x2 hx2), rfl, hc3, av_app, (len_app _ _), trivial⟩ ?_
  refine then_normal ?_
  refine awp_seq ?_
  obtain ⟨x4, hx4, h⟩ := bind_some h
  obtain ⟨hc5, h⟩ := chk_some h
  refine awp_region (rs := [⟨[], [(20000, 20)], (AV.list 1 eU8 (0 : Int) x4 (.own 20000)), [(20000, .tok 1 5 x4.length)]⟩]) (cs := [(21, (AV.list 1 eU8 (0 : Int) ((x1 ++ x2) ++ x4) (.own 32000)))]) (live := [4]) (names := [32000]) (st' := (⟨[(4, (AV.list 1 eU8 (0 : Int) ((x1 ++ x2) ++ x4) (.own 32000)))], [(32000, .tok 1 5 (((x1 ++ x2) ++ x4).length))]⟩ : St)) (obs := [(3 < List.length (α := AV) (Q154 a_p)), (Spec Try.prog 21 [(AV.list 1 eI64 (0 : Int) a_p.Args .none)] [] (AV.list 1 eU8 (0 : Int) x4 (.own 20000)) [(20000, .tok 1 5 x4.length)]), ((x1 ++ x2).length = (x1 ++ x2).length), ((x1 ++ x2).length + x4.length ≤ room), (AVle (.slice 1 ((x1 ++ x2).length + x4.length) (appF (x1 ++ x2).length (fun i => eU8 ((x1 ++ x2).getD i (0 : Int))) (fun i => eU8 (x4.getD i (0 : Int)))) (.own 32000)) (AV.list 1 eU8 (0 : Int) ((x1 ++ x2) ++ x4) (.own 32000))), ((x1 ++ x2).length + x4.length = ((x1 ++ x2) ++ x4).length)]) hn mix (hand_in hΓ rfl) (by kernel_rfl) ⟨(nl rfl), (ok_num_Row a_p.Args x4 hx4), rfl, hc5, av_app, (len_app _ _), trivial⟩ ?_
  refine then_normal ?_
  refine awp_ret ?_
  obtain rfl := Option.some.inj h
  exact ⟨.inl rfl, [(32000, 32000)], by kernel_rfl⟩

noncomputable def Q156 (a_o : TOp) := ([a_o.Kind, a_o.Bits, a_o.Lanes, a_o.Dst] : List (Int))
noncomputable def Q155 (a_o : TOp) : List AV := [(.int .i64 a_o.Kind), (.int .i64 a_o.Bits), (.int .i64 a_o.Lanes), (.int .i64 a_o.Dst), (AV.list 1 eI64 (0 : Int) a_o.Args .none), (.int .u64 a_o.Imm)]
noncomputable def m_code_putOp (a_b : List (Int)) (a_o : TOp) : Option (List (Int)) :=
  ((m_code_put a_b ([a_o.Kind, a_o.Bits, a_o.Lanes, a_o.Dst] : List (Int))).bind fun x1 => ((m_num_Row a_o.Args).bind fun x2 => (chk (x1.length + x2.length ≤ room) ((m_num_Put a_o.Imm).bind fun x4 => (chk ((x1 ++ x2).length + x4.length ≤ room) (some ((x1 ++ x2) ++ x4)))))))
theorem ok_code_putOp (a_b : List (Int)) (a_o : TOp) (r : List (Int)) (h : m_code_putOp a_b a_o = some r) : Spec Try.prog 23 [(AV.list 1 eU8 (0 : Int) a_b (.own 32000)), (.agg (eTOp a_o))] [(32000, .tok 1 5 a_b.length)] (AV.list 1 eU8 (0 : Int) r (.own 32000)) [(32000, .tok 1 5 r.length)] := by
  refine spec_of_awp (fn := Try.f23) Try.func23 rfl rfl (by kernel_rfl) (fun Γ hn hΓ => ?_)
  have hn : Γ.n = 26 := hn
  unfold m_code_putOp at h
  refine awp_seq ?_
  refine awp_region (rs := []) (cs := [(4, (AV.list 1 eU8 (0 : Int) ([] : List Int) .exact))]) (live := [0, 3]) (names := [3, 32000]) (st' := (⟨[(0, (AV.list 1 eU8 (0 : Int) a_b (.own 32000))), (3, (.ptr 3 0))], [(3, .row (Q155 a_o)), (32000, .tok 1 5 a_b.length)]⟩ : St)) (obs := [(AVle (.slice 0 0 (fun _ => []) .exact) (AV.list 1 eU8 (0 : Int) ([] : List Int) .exact))]) hn mix (hand_in hΓ rfl) (by kernel_rfl) ⟨av_nil, trivial⟩ ?_
  refine then_normal ?_
  refine awp_seq ?_
  obtain ⟨x1, hx1, h⟩ := bind_some h
  refine awp_region (rs := [⟨[(32000, 32000)], [], (AV.list 1 eU8 (0 : Int) x1 (.own 32000)), [(32000, .tok 1 5 x1.length)]⟩]) (cs := [(14, (AV.list 1 eI64 (0 : Int) (Q156 a_o) .exact))]) (live := [0, 3]) (names := [3, 32000]) (st' := (⟨[(0, (AV.list 1 eU8 (0 : Int) x1 (.own 32000))), (3, (.ptr 3 0))], [(3, .row (Q155 a_o)), (32000, .tok 1 5 x1.length)]⟩ : St)) (obs := [(0 < List.length (α := AV) (Q155 a_o)), (1 < List.length (α := AV) (Q155 a_o)), (2 < List.length (α := AV) (Q155 a_o)), (3 < List.length (α := AV) (Q155 a_o)), (AVle (.slice 1 4 (fun i => ([[(.int .i64 a_o.Kind)], [(.int .i64 a_o.Bits)], [(.int .i64 a_o.Lanes)], [(.int .i64 a_o.Dst)]] : List (List AV)).getD i []) .exact) (AV.list 1 eI64 (0 : Int) (Q156 a_o) .exact)), (Spec Try.prog 20 [(AV.list 1 eU8 (0 : Int) a_b (.own 32000)), (AV.list 1 eI64 (0 : Int) (Q156 a_o) .none)] [(32000, .tok 1 5 a_b.length)] (AV.list 1 eU8 (0 : Int) x1 (.own 32000)) [(32000, .tok 1 5 x1.length)])]) hn mix (hand_in hΓ rfl) (by kernel_rfl) ⟨(nl rfl), (nl rfl), (nl rfl), (nl rfl), (av_lit rfl (fun i hi => map_get (e := eI64) (d := (0 : Int)) (Q156 a_o) i hi)), (ok_code_put a_b (Q156 a_o) x1 hx1), trivial⟩ ?_
  refine then_normal ?_
  refine awp_seq ?_
  obtain ⟨x2, hx2, h⟩ := bind_some h
  obtain ⟨hc3, h⟩ := chk_some h
  refine awp_region (rs := [⟨[], [(20000, 19)], (AV.list 1 eU8 (0 : Int) x2 (.own 20000)), [(20000, .tok 1 5 x2.length)]⟩]) (cs := [(20, (AV.list 1 eU8 (0 : Int) (x1 ++ x2) (.own 32000)))]) (live := [0, 3]) (names := [3, 32000]) (st' := (⟨[(0, (AV.list 1 eU8 (0 : Int) (x1 ++ x2) (.own 32000))), (3, (.ptr 3 0))], [(3, .row (Q155 a_o)), (32000, .tok 1 5 ((x1 ++ x2).length))]⟩ : St)) (obs := [(4 < List.length (α := AV) (Q155 a_o)), (Spec Try.prog 21 [(AV.list 1 eI64 (0 : Int) a_o.Args .none)] [] (AV.list 1 eU8 (0 : Int) x2 (.own 20000)) [(20000, .tok 1 5 x2.length)]), (x1.length = x1.length), (x1.length + x2.length ≤ room), (AVle (.slice 1 (x1.length + x2.length) (appF x1.length (fun i => eU8 (x1.getD i (0 : Int))) (fun i => eU8 (x2.getD i (0 : Int)))) (.own 32000)) (AV.list 1 eU8 (0 : Int) (x1 ++ x2) (.own 32000))), (x1.length + x2.length = (x1 ++ x2).length)]) hn mix (hand_in hΓ rfl) (by kernel_rfl) ⟨(nl rfl), (ok_num_Row a_o.Args x2 hx2), rfl, hc3, av_app, (len_app _ _), trivial⟩ ?_
  refine then_normal ?_
  refine awp_seq ?_
  obtain ⟨x4, hx4, h⟩ := bind_some h
  obtain ⟨hc5, h⟩ := chk_some h
  refine awp_region (rs := [⟨[], [(20000, 24)], (AV.list 1 eU8 (0 : Int) x4 (.own 20000)), [(20000, .tok 1 5 x4.length)]⟩]) (cs := [(25, (AV.list 1 eU8 (0 : Int) ((x1 ++ x2) ++ x4) (.own 32000)))]) (live := [4]) (names := [32000]) (st' := (⟨[(4, (AV.list 1 eU8 (0 : Int) ((x1 ++ x2) ++ x4) (.own 32000)))], [(32000, .tok 1 5 (((x1 ++ x2) ++ x4).length))]⟩ : St)) (obs := [(5 < List.length (α := AV) (Q155 a_o)), (Spec Try.prog 39 [(.int .u64 a_o.Imm)] [] (AV.list 1 eU8 (0 : Int) x4 (.own 20000)) [(20000, .tok 1 5 x4.length)]), ((x1 ++ x2).length = (x1 ++ x2).length), ((x1 ++ x2).length + x4.length ≤ room), (AVle (.slice 1 ((x1 ++ x2).length + x4.length) (appF (x1 ++ x2).length (fun i => eU8 ((x1 ++ x2).getD i (0 : Int))) (fun i => eU8 (x4.getD i (0 : Int)))) (.own 32000)) (AV.list 1 eU8 (0 : Int) ((x1 ++ x2) ++ x4) (.own 32000))), ((x1 ++ x2).length + x4.length = ((x1 ++ x2) ++ x4).length)]) hn mix (hand_in hΓ rfl) (by kernel_rfl) ⟨(nl rfl), (ok_num_Put a_o.Imm x4 hx4), rfl, hc5, av_app, (len_app _ _), trivial⟩ ?_
  refine then_normal ?_
  refine awp_ret ?_
  obtain rfl := Option.some.inj h
  exact ⟨.inl rfl, [(32000, 32000)], by kernel_rfl⟩

noncomputable def Q157 (a_e : TEnd) : List AV := [(.int .i64 a_e.Kind), (.int .i64 a_e.Arg), (AV.list 1 eI64 (0 : Int) a_e.To .none)]
noncomputable def m_code_putEnd (a_b : List (Int)) (a_e : TEnd) : Option (List (Int)) :=
  ((m_code_put a_b ([a_e.Kind, a_e.Arg] : List (Int))).bind fun x1 => ((m_num_Row a_e.To).bind fun x2 => (chk (x1.length + x2.length ≤ room) (some (x1 ++ x2)))))
theorem ok_code_putEnd (a_b : List (Int)) (a_e : TEnd) (r : List (Int)) (h : m_code_putEnd a_b a_e = some r) : Spec Try.prog 24 [(AV.list 1 eU8 (0 : Int) a_b (.own 32000)), (.agg (eTEnd a_e))] [(32000, .tok 1 5 a_b.length)] (AV.list 1 eU8 (0 : Int) r (.own 32000)) [(32000, .tok 1 5 r.length)] := by
  refine spec_of_awp (fn := Try.f24) Try.func24 rfl rfl (by kernel_rfl) (fun Γ hn hΓ => ?_)
  have hn : Γ.n = 17 := hn
  unfold m_code_putEnd at h
  refine awp_seq ?_
  refine awp_region (rs := []) (cs := [(4, (AV.list 1 eU8 (0 : Int) ([] : List Int) .exact))]) (live := [0, 3]) (names := [3, 32000]) (st' := (⟨[(0, (AV.list 1 eU8 (0 : Int) a_b (.own 32000))), (3, (.ptr 3 0))], [(3, .row (Q157 a_e)), (32000, .tok 1 5 a_b.length)]⟩ : St)) (obs := [(AVle (.slice 0 0 (fun _ => []) .exact) (AV.list 1 eU8 (0 : Int) ([] : List Int) .exact))]) hn mix (hand_in hΓ rfl) (by kernel_rfl) ⟨av_nil, trivial⟩ ?_
  refine then_normal ?_
  refine awp_seq ?_
  obtain ⟨x1, hx1, h⟩ := bind_some h
  refine awp_region (rs := [⟨[(32000, 32000)], [], (AV.list 1 eU8 (0 : Int) x1 (.own 32000)), [(32000, .tok 1 5 x1.length)]⟩]) (cs := [(10, (AV.list 1 eI64 (0 : Int) ([a_e.Kind, a_e.Arg] : List (Int)) .exact))]) (live := [0, 3]) (names := [3, 32000]) (st' := (⟨[(0, (AV.list 1 eU8 (0 : Int) x1 (.own 32000))), (3, (.ptr 3 0))], [(3, .row (Q157 a_e)), (32000, .tok 1 5 x1.length)]⟩ : St)) (obs := [(0 < List.length (α := AV) (Q157 a_e)), (1 < List.length (α := AV) (Q157 a_e)), (AVle (.slice 1 2 (fun i => ([[(.int .i64 a_e.Kind)], [(.int .i64 a_e.Arg)]] : List (List AV)).getD i []) .exact) (AV.list 1 eI64 (0 : Int) ([a_e.Kind, a_e.Arg] : List (Int)) .exact)), (Spec Try.prog 20 [(AV.list 1 eU8 (0 : Int) a_b (.own 32000)), (AV.list 1 eI64 (0 : Int) ([a_e.Kind, a_e.Arg] : List (Int)) .none)] [(32000, .tok 1 5 a_b.length)] (AV.list 1 eU8 (0 : Int) x1 (.own 32000)) [(32000, .tok 1 5 x1.length)])]) hn mix (hand_in hΓ rfl) (by kernel_rfl) ⟨(nl rfl), (nl rfl), (av_lit rfl (fun i hi => map_get (e := eI64) (d := (0 : Int)) ([a_e.Kind, a_e.Arg] : List (Int)) i hi)), (ok_code_put a_b ([a_e.Kind, a_e.Arg] : List (Int)) x1 hx1), trivial⟩ ?_
  refine then_normal ?_
  refine awp_seq ?_
  obtain ⟨x2, hx2, h⟩ := bind_some h
  obtain ⟨hc3, h⟩ := chk_some h
  refine awp_region (rs := [⟨[], [(20000, 15)], (AV.list 1 eU8 (0 : Int) x2 (.own 20000)), [(20000, .tok 1 5 x2.length)]⟩]) (cs := [(16, (AV.list 1 eU8 (0 : Int) (x1 ++ x2) (.own 32000)))]) (live := [4]) (names := [32000]) (st' := (⟨[(4, (AV.list 1 eU8 (0 : Int) (x1 ++ x2) (.own 32000)))], [(32000, .tok 1 5 ((x1 ++ x2).length))]⟩ : St)) (obs := [(2 < List.length (α := AV) (Q157 a_e)), (Spec Try.prog 21 [(AV.list 1 eI64 (0 : Int) a_e.To .none)] [] (AV.list 1 eU8 (0 : Int) x2 (.own 20000)) [(20000, .tok 1 5 x2.length)]), (x1.length = x1.length), (x1.length + x2.length ≤ room), (AVle (.slice 1 (x1.length + x2.length) (appF x1.length (fun i => eU8 (x1.getD i (0 : Int))) (fun i => eU8 (x2.getD i (0 : Int)))) (.own 32000)) (AV.list 1 eU8 (0 : Int) (x1 ++ x2) (.own 32000))), (x1.length + x2.length = (x1 ++ x2).length)]) hn mix (hand_in hΓ rfl) (by kernel_rfl) ⟨(nl rfl), (ok_num_Row a_e.To x2 hx2), rfl, hc3, av_app, (len_app _ _), trivial⟩ ?_
  refine then_normal ?_
  refine awp_ret ?_
  obtain rfl := Option.some.inj h
  exact ⟨.inl rfl, [(32000, 32000)], by kernel_rfl⟩
end Go.Proofs.Ytmlldiinidkecaa
