/-
  The machine, the program's functions and the laws' arithmetic: part 5 of 6.
-/
import Derived.Test.YtjpacggpipflcaaPk4
set_option linter.unusedVariables false
set_option linter.unusedSimpArgs false
namespace Go.Proofs.Ytjpacggpipflcaa
noncomputable section
open Go Go.RowKit
set_option linter.unusedVariables false
set_option maxRecDepth 100000
set_option maxHeartbeats 2000000
def D3 (a_list : List (Int)) : (Int × List (Bool)) → Option (LR (Int × List (Bool)) (List (Bool))) :=
  fun ((i1, l2) : (Int × List (Bool))) => (bif (decide ((i1 : Int) < (a_list.length : Int))) then (Cc (A4 i1 a_list.length) (Cc (A4 (a_list.getD (i1).toNat (0 : Int)) 64) (some (.next ((Bg (i1 + (1 : Int))), (Dx 64 false l2 ((a_list.getD (i1).toNat (0 : Int))).toNat true)))))) else (some (.done l2)))
def Vs (a_list : List (Int)) : AV := (AV.list 1 Ad (0 : Int) a_list .none)
def Sz := (fun i => eB ((List.replicate 64 false).getD i false))
def Q175 (l2 : List (Bool)) : List (Nat × Own) := [(2, .arr 1 53 64 Sz), (3, .arr 1 53 64 (fun i => eB (l2.getD i false)))]
def Q173 (a_list : List (Int)) (i1 : Int) : List (Nat × AV) := [(2, (.vpt 2 64 0 0)), (3, (.vpt 3 64 0 0)), (6, (Vs a_list)), (7, (.int .i64 (a_list.length : Int))), (8, (.int .i64 i1))]
def Fl (a_list : List (Int)) : Option (List (Bool)) :=
  ((At (S := (Int × List (Bool))) (X := List (Bool)) (D3 a_list) ((0 : Int), (List.replicate 64 false))).bind (fun x6 => ((some x6))))
theorem Rj (a_list : List (Int)) (r : List (Bool)) (h : Fl a_list = some r) : Spec Try.prog 30 [(AV.list 1 Ad (0 : Int) a_list .none)] [] (.agg (Fz r)) [] := by
  refine Ap (fn := Try.f30) Try.func30 rfl rfl (by kernel_rfl) (fun Γ hn hΓ => ?_); have hq : RgQ Try.prog Γ 16 [] := ⟨hn, mix, hΓ⟩; unfold Fl at h; refine B7 [] [(2, (.vpt 2 64 0 0))] ⟨[(0, (Vs a_list)), (2, (.vpt 2 64 0 0))], [(2, .arr 1 53 64 (fun i_ => AV.eraseAll (fun n_ => Cb n_ [2]) ((fun i => (((List.replicate 64 [(.bool false)]).flatten).drop (i * 1)).take 1) i_)))], []⟩ [] hq trivial ?_; refine Af (Cg (st' := ⟨[(0, (Vs a_list)), (2, (.vpt 2 64 0 0))], [(2, .arr 1 53 64 Sz)], []⟩) (TmpsLe.refl _) (.arr (Id (e := eB) (d := false) (z := [(.bool false)]) rfl rfl rfl) .nil)) ?_; refine B7 [] [(3, (.vpt 3 64 0 0))] ⟨[(0, (Vs a_list)), (2, (.vpt 2 64 0 0)), (3, (.vpt 3 64 0 0))], [(2, .arr 1 53 64 Sz), (3, .arr 1 53 64 (fun i_ => AV.eraseAll (fun n_ => Cb n_ [2, 3]) ((fun i => (((List.replicate 64 [(.bool false)]).flatten).drop (i * 1)).take 1) i_)))], []⟩ [] hq trivial ?_; refine Af (Cg (st' := ⟨[(0, (Vs a_list)), (2, (.vpt 2 64 0 0)), (3, (.vpt 3 64 0 0))], [(2, .arr 1 53 64 Sz), (3, .arr 1 53 64 Sz)], []⟩) (TmpsLe.refl _) (.same (.arr (Id (e := eB) (d := false) (z := [(.bool false)]) rfl rfl rfl) .nil))) ?_; refine Ae ?_; refine As ⟨[(2, (.vpt 2 64 0 0)), (3, (.vpt 3 64 0 0)), (6, (Vs a_list)), (7, (.int .i64 (a_list.length : Int))), (8, (.int .i64 (0 : Int)))], [(2, .arr 1 53 64 Sz), (3, .arr 1 53 64 Sz)], []⟩ hq ?_; refine Ah ?_; refine Af (st' := (fun ((i1, l2) : (Int × List (Bool))) => (⟨(Q173 a_list i1), (Q175 l2), []⟩ : St)) ((0 : Int), (List.replicate 64 false))) (Le.refl _ _) ?_; obtain ⟨x6, hx6, h⟩ := bind_some h; refine A8 (fun ((i1, l2) : (Int × List (Bool))) => (⟨(Q173 a_list i1), (Q175 l2), []⟩ : St)) _ (fun (l3 : List (Bool)) (e : Exit) (st : St) => e = (.exit 0) ∧ Le Γ st (⟨[(2, (.vpt 2 64 0 0)), (3, (.vpt 3 64 0 0))], [(2, .arr 1 53 64 Sz), (3, .arr 1 53 64 (fun i => eB (l3.getD i false)))], []⟩ : St)) ?_ hx6 ?_
  · rintro ⟨i1, l2⟩ y h; unfold D3 at h; refine As ⟨[(2, (.vpt 2 64 0 0)), (3, (.vpt 3 64 0 0)), (6, (Vs a_list)), (7, (.int .i64 (a_list.length : Int))), (8, (.int .i64 i1)), (9, (.bool (decide ((i1 : Int) < (a_list.length : Int)))))], (Q175 l2), []⟩ hq ?_; refine Ae ?_; refine Aj (decide ((i1 : Int) < (a_list.length : Int))) (by kernel_rfl) (fun hb => ?_) (fun hb => ?_)
    · replace h := Ao hb h; clear hb; refine Ai ?_; refine Aa ?_; refine Ae ?_; refine Ah ?_; obtain ⟨hc4, h⟩ := Ab h; refine B7 [] [] ⟨[(2, (.vpt 2 64 0 0)), (3, (.vpt 3 64 0 0)), (5, (.int .i64 (a_list.getD (i1).toNat (0 : Int)))), (6, (Vs a_list)), (7, (.int .i64 (a_list.length : Int))), (8, (.int .i64 i1))], (Q175 l2), []⟩ [(A4 i1 a_list.length)] hq ⟨hc4, trivial⟩ ?_; obtain ⟨hc5, h⟩ := Ab h; refine rg [] [] ⟨(Q173 a_list i1), [(2, .arr 1 53 64 Sz), (3, .arr 1 53 64 (fun i_ => AV.eraseAll (fun n_ => Cb n_ [2, 3]) ((Ff (fun i => eB (l2.getD i false)) ((a_list.getD (i1).toNat (0 : Int))).toNat 0 [(.bool true)]) i_)))], []⟩ [(A4 (a_list.getD (i1).toNat (0 : Int)) 64), (64 = 64)] hq ⟨hc5, rfl, trivial⟩ ?_; refine Ak ?_; refine Aa ?_; refine Af (Cg (st' := ⟨(Q173 a_list i1), [(2, .arr 1 53 64 Sz), (3, .arr 1 53 64 (fun i => eB ((Dx 64 false l2 ((a_list.getD (i1).toNat (0 : Int))).toNat true).getD i false)))], []⟩) (TmpsLe.refl _) (.same (.arr (Be rfl (fun k_ hk_ => (congrArg (AV.eraseAll (fun n_ => Cb n_ [2, 3])) ((Fk (fun _ _ => rfl) (D7 hc5) rfl) k_ hk_)).trans rfl)) .nil))) ?_; refine Kd ⟨[(2, (.vpt 2 64 0 0)), (3, (.vpt 3 64 0 0)), (6, (Vs a_list)), (7, (.int .i64 (a_list.length : Int))), (8, (.int .i64 (Bg (i1 + (1 : Int)))))], [(2, .arr 1 53 64 Sz), (3, .arr 1 53 64 (fun i => eB ((Dx 64 false l2 ((a_list.getD (i1).toNat (0 : Int))).toNat true).getD i false)))], []⟩ hq ?_; obtain rfl := OI h; exact ⟨rfl, Le.refl _ _⟩
    · replace h := Au hb h; clear hb; refine A7 ?_; refine A2 ?_; obtain rfl := OI h; exact ⟨(by intro hh; cases hh), rfl, Fo [2, 3] [2, 3] hq⟩
  · clear hx6; rintro e st' ⟨rfl, hl7⟩; refine Az ?_; refine Aa ?_; refine Af hl7 ?_; refine B7 [] [] ⟨[(2, (.vpt 2 64 0 0))], [(2, .arr 1 53 64 (fun i_ => AV.eraseAll (fun n_ => Cb n_ [2]) ((fun i_ => (((Fz x6)).drop (i_ * 1)).take 1) i_)))], []⟩ [(64 = 64), (64 = 64)] hq ⟨rfl, rfl, trivial⟩ ?_; refine Af (Cg (st' := ⟨[(2, (.vpt 2 64 0 0))], [(2, .arr 1 53 64 (fun i => eB (x6.getD i false)))], []⟩) (TmpsLe.refl _) (.arr (Be rfl (fun k_ hk_ => (congrArg (AV.eraseAll (fun n_ => Cb n_ [2])) ((Kl (n := 64) (sz := 1) (f := (fun i => eB (x6.getD i false))) (fun _ _ => rfl)) k_ hk_)).trans rfl)) .nil)) ?_; refine Ar ?_; obtain rfl := OI h; exact ⟨.inl rfl, [], by kernel_rfl⟩
def Q176 : AV := (AV.list 1 Ad (0 : Int) ([] : List Int) .exact)
def Q177 := (⟨[(2, (.vsl 36002 ([] : List Int).length))], [(36002, .arr 1 3 (([] : List Int).length) (fun i => Ad (([] : List Int).getD i (0 : Int))))], []⟩ : St)
def C0 (a_s : List (Int)) : Option (List (Int)) :=
  (Cc (a_s.length ≤ room) (some a_s))
theorem In (a_s : List (Int)) (r : List (Int)) (h : C0 a_s = some r) : Spec Try.prog 42 [(AV.list 1 Ad (0 : Int) a_s .none)] [] (.vsl 20000 r.length) [(20000, .arr 1 3 r.length (fun i => Ad (r.getD i (0 : Int))))] := by
  refine Ap (fn := Try.f42) Try.func42 rfl rfl (by kernel_rfl) (fun Γ hn hΓ => ?_); have hq : RgQ Try.prog Γ 8 [] := ⟨hn, mix, hΓ⟩; unfold C0 at h; refine B7 [] [(2, Q176)] ⟨[(0, (AV.list 1 Ad (0 : Int) a_s .none))], [], []⟩ [(AVle (.slice 0 0 (fun _ => []) .exact) Q176)] hq ⟨Ea, trivial⟩ ?_; refine Ae ?_; refine As ⟨[(0, (AV.list 1 Ad (0 : Int) a_s .none)), (4, (.nilq true a_s.length))], [], []⟩ hq ?_; refine W4 true a_s.length (by kernel_rfl) (fun hb => ?_) (fun hb => ?_)
  · replace h := nil_at (some ([] : List Int)) (fun (l2 : List Int) => (Cc (l2.length ≤ room) (some l2))) h (hb rfl) rfl (fun h0 => by first | exact h0 | simpa [Cc, room] using h0); clear hb; refine B7 [] [(2, Q176)] ⟨[(2, Q176)], [], []⟩ [(AVle (.slice 0 0 (fun _ => []) .exact) Q176)] hq ⟨Ea, trivial⟩ ?_; refine Af (st' := Q177) (Le.trans (le_arr (t := 2) (nm := 36002) (sz' := 1) (fun i => Ad (([] : List Int).getD i (0 : Int))) 3 rfl rfl) (Fo (st' := Q177) [2] [36002] hq)) ?_; refine Ar ?_; refine A0 ?_; obtain rfl := OI h; exact ⟨.inl rfl, [(36002, 20000)], by kernel_rfl⟩
  · clear hb; refine Ai ?_; refine Aa ?_; obtain ⟨hc1, h⟩ := Ab h; refine B7 [] [(5, Q176), (7, .vsl 7 0)] ⟨[(2, (.vsl 7 a_s.length))], [(7, .arr 1 3 a_s.length (fun i => Ad (a_s.getD i (0 : Int))))], []⟩ [(AVle (.slice 1 0 (fun i => ([] : List (List AV)).getD i []) .exact) Q176), (a_s.length ≤ room)] hq ⟨Ft rfl (fun i hi => absurd hi (Nat.not_lt_zero i)), hc1, trivial⟩ ?_; refine Ar ?_; obtain rfl := OI h; exact ⟨.inl rfl, [(7, 20000)], by kernel_rfl⟩
def B8 (a_m : List (Bool)) : (List (Int) × Int) → Option (LR (List (Int) × Int) (List (Int))) :=
  fun ((l1, i2) : (List (Int) × Int)) => (bif (decide ((i2 : Int) < (64 : Int))) then (Option.bind (α := List (Int)) (Cc (A4 i2 64) (bif (a_m.getD (i2).toNat false) then (Cc (l1.length + ([i2] : List (Int)).length ≤ room) (some ((l1 ++ ([i2] : List (Int)))))) else (some (l1)))) (fun x7 => ((some (.next (x7, (Bg (i2 + (1 : Int))))))))) else (some (.done l1)))
def Qd (i2 : Int) := ([i2] : List (Int))
def Q179 (l1 : List (Int)) : AV := (AV.list 1 Ad (0 : Int) l1 (.own 5003))
def Q178 : AV := (AV.list 1 Ad (0 : Int) ([] : List Int) .exact)
def Du (a_m : List (Bool)) : Option (List (Int)) :=
  ((At (S := (List (Int) × Int)) (X := List (Int)) (B8 a_m) (([] : List Int), (0 : Int))).bind (fun x9 => ((some x9))))
theorem Hv (a_m : List (Bool)) (r : List (Int)) (h : Du a_m = some r) : Spec Try.prog 46 [(.agg (Fz a_m))] [] (AV.list 1 Ad (0 : Int) r (.own 20000)) [(20000, .tok 1 3 r.length)] := by
  refine Ap (fn := Try.f46) Try.func46 rfl rfl (by kernel_rfl) (fun Γ hn hΓ => ?_); have hq : RgQ Try.prog Γ 18 [] := ⟨hn, mix, hΓ⟩; unfold Du at h; refine B7 [] [(1, (.vpt 1 64 0 0)), (2, Q178)] ⟨[(1, (.vpt 1 64 0 0))], [(1, .arr 1 53 64 (fun i_ => AV.eraseAll (fun n_ => Cb n_ [1]) ((fun i_ => (((Fz a_m)).drop (i_ * 1)).take 1) i_)))], []⟩ [(AVle (.slice 0 0 (fun _ => []) .exact) Q178)] hq ⟨Ea, trivial⟩ ?_; refine Af (Cg (st' := ⟨[(1, (.vpt 1 64 0 0))], [(1, .arr 1 53 64 (fun i => eB (a_m.getD i false)))], []⟩) (TmpsLe.refl _) (.arr (Be rfl (fun k_ hk_ => (congrArg (AV.eraseAll (fun n_ => Cb n_ [1])) ((Kl (n := 64) (sz := 1) (f := (fun i => eB (a_m.getD i false))) (fun _ _ => rfl)) k_ hk_)).trans rfl)) .nil)) ?_; refine B7 [] [(3, Q178)] ⟨[(1, (.vpt 1 64 0 0)), (3, Q178)], [(1, .arr 1 53 64 (fun i => eB (a_m.getD i false)))], []⟩ [(AVle (.slice 0 0 (fun _ => []) .exact) Q178)] hq ⟨Ea, trivial⟩ ?_; refine Ae ?_; refine B7 [] [] ⟨[(3, Q178), (6, (.agg (Fz a_m))), (7, (.int .i64 (0 : Int)))], [], []⟩ [(64 = 64)] hq ⟨rfl, trivial⟩ ?_; refine Ah ?_; refine Af (st' := (fun ((l1, i2) : (List (Int) × Int)) => (⟨[(3, (Q179 l1)), (6, (.agg (Fz a_m))), (7, (.int .i64 i2))], [(5003, .tok 1 3 l1.length)], []⟩ : St)) (([] : List Int), (0 : Int))) (Le.trans (Pf (t := 3) (nm := 5003) (sz' := 1) (fun i => Ad (([] : List Int).getD i (0 : Int))) 3 rfl rfl (.inl ⟨rfl, rfl⟩) (fun h_ => absurd h_ (by decide))) (Fo (st' := ⟨[(3, (AV.list 1 Ad (0 : Int) ([] : List Int) (.own 5003))), (6, (.agg (Fz a_m))), (7, (.int .i64 (0 : Int)))], [(5003, .tok 1 3 (([] : List Int).length))], []⟩) [3, 6, 7] [5003] hq)) ?_; obtain ⟨x9, hx9, h⟩ := bind_some h; refine A8 (fun ((l1, i2) : (List (Int) × Int)) => (⟨[(3, (Q179 l1)), (6, (.agg (Fz a_m))), (7, (.int .i64 i2))], [(5003, .tok 1 3 l1.length)], []⟩ : St)) _ (fun (l3 : List (Int)) (e : Exit) (st : St) => e = (.exit 0) ∧ Le Γ st (⟨[(3, (AV.list 1 Ad (0 : Int) l3 (.own 5003)))], [(5003, .tok 1 3 l3.length)], []⟩ : St)) ?_ hx9 ?_
  · rintro ⟨l1, i2⟩ y h; unfold B8 at h; refine As ⟨[(3, (Q179 l1)), (6, (.agg (Fz a_m))), (7, (.int .i64 i2)), (8, (.bool (decide ((i2 : Int) < (64 : Int)))))], [(5003, .tok 1 3 l1.length)], []⟩ hq ?_; refine Ae ?_; refine Aj (decide ((i2 : Int) < (64 : Int))) (by kernel_rfl) (fun hb => ?_) (fun hb => ?_)
    · replace h := Ao hb h; clear hb; refine Ai ?_; refine Aa ?_; refine Ae ?_; obtain ⟨x7, hx7, h⟩ := bind_some h; refine Ex (fun (l4 : List (Int)) (e : Exit) (st : St) => e = .normal ∧ Le Γ st (⟨[(3, (AV.list 1 Ad (0 : Int) l4 (.own 5003))), (6, (.agg (Fz a_m))), (7, (.int .i64 i2))], [(5003, .tok 1 3 l4.length)], []⟩ : St)) hx7 ?_ ?_
      · clear h hx7; intro y h; refine Ah ?_; obtain ⟨hc5, h⟩ := Ab h; refine B7 [] [(10, (.bool (a_m.getD (i2).toNat false)))] ⟨[(3, (Q179 l1)), (4, (.int .i64 i2)), (5, (.bool (a_m.getD (i2).toNat false))), (6, (.agg (Fz a_m))), (7, (.int .i64 i2))], [(5003, .tok 1 3 l1.length)], []⟩ [(A4 i2 64), (AVle ((Fz a_m).getD (i2).toNat .any) (.bool (a_m.getD (i2).toNat false)))] hq ⟨hc5, (flat_at (n := 64) (f := fun i => eB (a_m.getD i false)) rfl (fun _ _ => rfl) (D7 hc5) rfl), trivial⟩ ?_; refine As ⟨[(3, (Q179 l1)), (4, (.int .i64 i2)), (6, (.agg (Fz a_m))), (7, (.int .i64 i2)), (11, (.bool (a_m.getD (i2).toNat false)))], [(5003, .tok 1 3 l1.length)], []⟩ hq ?_; refine Aj (a_m.getD (i2).toNat false) (by kernel_rfl) (fun hb => ?_) (fun hb => ?_)
        · replace h := Ao hb h; clear hb; obtain ⟨hc6, h⟩ := Ab h; refine rg [] [(14, (AV.list 1 Ad (0 : Int) (Qd i2) .exact)), (15, (AV.list 1 Ad (0 : Int) (l1 ++ (Qd i2)) (.own 5003)))] ⟨[(3, (AV.list 1 Ad (0 : Int) (l1 ++ (Qd i2)) (.own 5003))), (6, (.agg (Fz a_m))), (7, (.int .i64 i2))], [(5003, .tok 1 3 ((l1 ++ (Qd i2)).length))], []⟩ [(AVle (.slice 1 1 (fun i => ([[(.int .i64 i2)]] : List (List AV)).getD i []) .exact) (AV.list 1 Ad (0 : Int) (Qd i2) .exact)), (l1.length = l1.length), (l1.length + (Qd i2).length ≤ room), (AVle (.slice 1 (l1.length + (Qd i2).length) (E8 l1.length (fun i => Ad (l1.getD i (0 : Int))) (fun i => Ad ((Qd i2).getD i (0 : Int)))) (.own 5003)) (AV.list 1 Ad (0 : Int) (l1 ++ (Qd i2)) (.own 5003))), (l1.length + (Qd i2).length = (l1 ++ (Qd i2)).length)] hq ⟨(Ft rfl (fun i hi => Fa (e := Ad) (d := (0 : Int)) (Qd i2) i hi)), rfl, hc6, Nx, (Eg _ _), trivial⟩ ?_; refine Ak ?_; obtain rfl := OI h; exact ⟨rfl, Le.refl _ _⟩
        · replace h := Au hb h; clear hb; refine Ai ?_; refine Ak ?_; obtain rfl := OI h; exact ⟨rfl, Fo [3, 6, 7] [5003] hq⟩
      · clear hx7; rintro e st' ⟨rfl, hl8⟩; refine Aa ?_; refine Af hl8 ?_; refine Kd ⟨[(3, (AV.list 1 Ad (0 : Int) x7 (.own 5003))), (6, (.agg (Fz a_m))), (7, (.int .i64 (Bg (i2 + (1 : Int)))))], [(5003, .tok 1 3 x7.length)], []⟩ hq ?_; obtain rfl := OI h; exact ⟨rfl, Le.refl _ _⟩
    · replace h := Au hb h; clear hb; refine A7 ?_; refine A2 ?_; obtain rfl := OI h; exact ⟨(by intro hh; cases hh), rfl, Fo [3] [5003] hq⟩
  · clear hx9; rintro e st' ⟨rfl, hl10⟩; refine Az ?_; refine Aa ?_; refine Af hl10 ?_; refine As ⟨[(2, (AV.list 1 Ad (0 : Int) x9 (.own 5003)))], [(5003, .tok 1 3 x9.length)], []⟩ hq ?_; refine Ar ?_; obtain rfl := OI h; exact ⟨.inl rfl, [(5003, 20000)], by kernel_rfl⟩
def Do (a_pred : List (List (Int))) (a_reached : List (Bool)) : (List (Bool) × List (Int)) → Option (LR (List (Bool) × List (Int)) (List (Int))) :=
  fun (s_ : (List (Bool) × List (Int))) => match s_ with | (l1, l2) => (bif (((l2.length : Int) : Int) == (0 : Int)) then ((Du l1).bind fun x17 => (some (.done x17))) else (Cc (A4 (Bg ((l2.length : Int) - (1 : Int))) l2.length) (Cc (0 ≤ (Bg ((l2.length : Int) - (1 : Int))) ∧ 0 + ((Bg ((l2.length : Int) - (1 : Int)))).toNat ≤ l2.length) (Option.bind (α := (List (Bool) × List (Int))) (Cc (A4 (l2.getD ((Bg ((l2.length : Int) - (1 : Int)))).toNat (0 : Int)) 64) (Cc (((a_reached.getD ((l2.getD ((Bg ((l2.length : Int) - (1 : Int)))).toNat (0 : Int))).toNat false) == true) = true → (A4 (l2.getD ((Bg ((l2.length : Int) - (1 : Int)))).toNat (0 : Int)) 64)) (bif (bif (a_reached.getD ((l2.getD ((Bg ((l2.length : Int) - (1 : Int)))).toNat (0 : Int))).toNat false) then (!(l1.getD ((l2.getD ((Bg ((l2.length : Int) - (1 : Int)))).toNat (0 : Int))).toNat false)) else false) then (Cc (A4 (l2.getD ((Bg ((l2.length : Int) - (1 : Int)))).toNat (0 : Int)) 64) (Cc (A4 (l2.getD ((Bg ((l2.length : Int) - (1 : Int)))).toNat (0 : Int)) a_pred.length) (Cc ((l2.take ((Bg ((l2.length : Int) - (1 : Int)))).toNat).length + (a_pred.getD ((l2.getD ((Bg ((l2.length : Int) - (1 : Int)))).toNat (0 : Int))).toNat []).length ≤ room) (some (((Dx 64 false l1 ((l2.getD ((Bg ((l2.length : Int) - (1 : Int)))).toNat (0 : Int))).toNat true), ((l2.take ((Bg ((l2.length : Int) - (1 : Int)))).toNat) ++ (a_pred.getD ((l2.getD ((Bg ((l2.length : Int) - (1 : Int)))).toNat (0 : Int))).toNat [])))))))) else (some ((l1, (l2.take ((Bg ((l2.length : Int) - (1 : Int)))).toNat))))))) (fun x27 => (match x27 with | (l20, l21) => (some (.next (l20, l21)))))))))
def X0 := (fun n_ => Cb n_ [5, 9, 15])
def Q191 (l1 : List (Bool)) := (fun i => eB (l1.getD i false))
def F6 (a_pred : List (List (Int))) : AV := (AV.list 1 eLI64 [] a_pred .none)
def Lh (l2 : List (Int)) := (l2.getD ((Bg ((l2.length : Int) - (1 : Int)))).toNat (0 : Int))
def Th (a_pred : List (List (Int))) (l2 : List (Int)) := (a_pred.getD ((Lh l2)).toNat [])
def Lb (x4 : List (Int)) := (x4.getD ((Bg ((x4.length : Int) - (1 : Int)))).toNat (0 : Int))
def T7 (a_pred : List (List (Int))) (x4 : List (Int)) := (a_pred.getD ((Lb x4)).toNat [])
def Q192 (x4 : List (Int)) := (fun i => Ad (x4.getD i (0 : Int)))
def Ha (a_reached : List (Bool)) := (fun i => eB (a_reached.getD i false))
def Qj (a_reached : List (Bool)) (l2 : List (Int)) := (a_reached.getD ((Lh l2)).toNat false)
def Qg (a_reached : List (Bool)) (x4 : List (Int)) := (a_reached.getD ((Lb x4)).toNat false)
def Y7 (a_begins : List (Int)) : AV := (AV.list 1 Ad (0 : Int) a_begins .none)
def Q186 (a_head : Int) := (Dx 64 false (List.replicate 64 false) (a_head).toNat true)
def Zo (a_head : Int) := (fun i => eB ((Q186 a_head).getD i false))
def Jq (l2 : List (Int)) := (l2.take ((Bg ((l2.length : Int) - (1 : Int)))).toNat)
def Q201 (l2 : List (Int)) := (fun i => Ad ((Jq l2).getD i (0 : Int)))
def Jp (x4 : List (Int)) := (x4.take ((Bg ((x4.length : Int) - (1 : Int)))).toNat)
def Q202 (x4 : List (Int)) := (fun i => Ad ((Jp x4).getD i (0 : Int)))
def Y0 (l2 : List (Int)) := (0 + ((Bg ((l2.length : Int) - (1 : Int)))).toNat)
def Q189 (x4 : List (Int)) := (0 + ((Bg ((x4.length : Int) - (1 : Int)))).toNat)
def Q200 (l1 : List (Bool)) (l2 : List (Int)) := (fun i => eB ((Dx 64 false l1 ((Lh l2)).toNat true).getD i false))
def Q199 (a_head : Int) (x4 : List (Int)) := (fun i => eB ((Dx 64 false (Q186 a_head) ((Lb x4)).toNat true).getD i false))
def Q194 (a_reached : List (Bool)) (l1 : List (Bool)) (l2 : List (Int)) : List (Nat × Own) := [(5, .arr 1 53 64 (Ha a_reached)), (9, .arr 1 53 64 (Q191 l1)), (15, .arr 1 3 l2.length (fun i => Ad (l2.getD i (0 : Int))))]
def Q193 (a_reached : List (Bool)) (a_head : Int) (x4 : List (Int)) : List (Nat × Own) := [(5, .arr 1 53 64 (Ha a_reached)), (9, .arr 1 53 64 (Zo a_head)), (15, .arr 1 3 x4.length (Q192 x4))]
def Hw (a_pred : List (List (Int))) (a_reached : List (Bool)) (a_head : Int) (a_begins : List (Int)) : Option (List (Int)) :=
  ((Ki (S := (List (Bool) × List (Int))) (X := List (Int)) (Cc (A4 a_head 64) ((C0 a_begins).bind fun x4 => (bif (((x4.length : Int) : Int) == (0 : Int)) then ((Du (Dx 64 false (List.replicate 64 false) (a_head).toNat true)).bind fun x5 => (some (.done x5))) else (Cc (A4 (Bg ((x4.length : Int) - (1 : Int))) x4.length) (Cc (0 ≤ (Bg ((x4.length : Int) - (1 : Int))) ∧ 0 + ((Bg ((x4.length : Int) - (1 : Int)))).toNat ≤ x4.length) (Option.bind (α := (List (Bool) × List (Int))) (Cc (A4 (x4.getD ((Bg ((x4.length : Int) - (1 : Int)))).toNat (0 : Int)) 64) (Cc (((a_reached.getD ((x4.getD ((Bg ((x4.length : Int) - (1 : Int)))).toNat (0 : Int))).toNat false) == true) = true → (A4 (x4.getD ((Bg ((x4.length : Int) - (1 : Int)))).toNat (0 : Int)) 64)) (bif (bif (a_reached.getD ((x4.getD ((Bg ((x4.length : Int) - (1 : Int)))).toNat (0 : Int))).toNat false) then (!((Dx 64 false (List.replicate 64 false) (a_head).toNat true).getD ((x4.getD ((Bg ((x4.length : Int) - (1 : Int)))).toNat (0 : Int))).toNat false)) else false) then (Cc (A4 (x4.getD ((Bg ((x4.length : Int) - (1 : Int)))).toNat (0 : Int)) 64) (Cc (A4 (x4.getD ((Bg ((x4.length : Int) - (1 : Int)))).toNat (0 : Int)) a_pred.length) (Cc ((x4.take ((Bg ((x4.length : Int) - (1 : Int)))).toNat).length + (a_pred.getD ((x4.getD ((Bg ((x4.length : Int) - (1 : Int)))).toNat (0 : Int))).toNat []).length ≤ room) (some (((Dx 64 false (Dx 64 false (List.replicate 64 false) (a_head).toNat true) ((x4.getD ((Bg ((x4.length : Int) - (1 : Int)))).toNat (0 : Int))).toNat true), ((x4.take ((Bg ((x4.length : Int) - (1 : Int)))).toNat) ++ (a_pred.getD ((x4.getD ((Bg ((x4.length : Int) - (1 : Int)))).toNat (0 : Int))).toNat [])))))))) else (some (((Dx 64 false (List.replicate 64 false) (a_head).toNat true), (x4.take ((Bg ((x4.length : Int) - (1 : Int)))).toNat))))))) (fun x15 => (match x15 with | (l8, l9) => (some (.next (l8, l9))))))))))) (Do a_pred a_reached)).bind (fun x29 => ((some x29))))
theorem Vp (a_pred : List (List (Int))) (a_reached : List (Bool)) (a_head : Int) (a_begins : List (Int)) (r : List (Int)) (h : Hw a_pred a_reached a_head a_begins = some r) : Spec Try.prog 31 [(AV.list 1 eLI64 [] a_pred .none), (.agg (Fz a_reached)), (.int .i64 a_head), (AV.list 1 Ad (0 : Int) a_begins .none)] [] (AV.list 1 Ad (0 : Int) r (.own 20000)) [(20000, .tok 1 3 r.length)] := by
  refine Ap (fn := Try.f31) Try.func31 rfl rfl (by kernel_rfl) (fun Γ hn hΓ => ?_); have hq : RgQ Try.prog Γ 49 [] := ⟨hn, mix, hΓ⟩; unfold Hw at h; refine B7 [] [(5, (.vpt 5 64 0 0)), (8, (AV.list 1 Ad (0 : Int) ([] : List Int) .exact))] ⟨[(0, (F6 a_pred)), (2, (.int .i64 a_head)), (3, (Y7 a_begins)), (5, (.vpt 5 64 0 0))], [(5, .arr 1 53 64 (fun i_ => AV.eraseAll (fun n_ => Cb n_ [5]) ((fun i_ => (((Fz a_reached)).drop (i_ * 1)).take 1) i_)))], []⟩ [(AVle (.slice 0 0 (fun _ => []) .exact) (AV.list 1 Ad (0 : Int) ([] : List Int) .exact))] hq ⟨Ea, trivial⟩ ?_; refine Af (Cg (st' := ⟨[(0, (F6 a_pred)), (2, (.int .i64 a_head)), (3, (Y7 a_begins)), (5, (.vpt 5 64 0 0))], [(5, .arr 1 53 64 (Ha a_reached))], []⟩) (TmpsLe.refl _) (.arr (Be rfl (fun k_ hk_ => (congrArg (AV.eraseAll (fun n_ => Cb n_ [5])) ((Kl (n := 64) (sz := 1) (f := (Ha a_reached)) (fun _ _ => rfl)) k_ hk_)).trans rfl)) .nil)) ?_; obtain ⟨x29, hx29, h⟩ := bind_some h; refine Pp (S := (List (Bool) × List (Int))) (X := List (Int)) (fun (s_ : (List (Bool) × List (Int))) => match s_ with | (l1, l2) => 0) (fun (s_ : (List (Bool) × List (Int))) => match s_ with | (l1, l2) => (⟨[(0, (F6 a_pred)), (5, (.vpt 5 64 0 0)), (9, (.vpt 9 64 0 0)), (10, (.vsl 15 l2.length))], (Q194 a_reached l1 l2), []⟩ : St)) _ _ (fun (r_ : List (Int)) (e : Exit) (st : St) => e = .ret ∧ Jv Try.prog Try.f31.results.toList [] (AV.list 1 Ad (0 : Int) r_ (.own 20000)) [(20000, .tok 1 3 r_.length)] e st) ?_ ?_ hx29 ?_
  · clear h hx29; intro y h; refine B7 [] [(9, (.vpt 9 64 0 0))] ⟨[(0, (F6 a_pred)), (2, (.int .i64 a_head)), (3, (Y7 a_begins)), (5, (.vpt 5 64 0 0)), (9, (.vpt 9 64 0 0))], [(5, .arr 1 53 64 (Ha a_reached)), (9, .arr 1 53 64 (fun i_ => AV.eraseAll (fun n_ => Cb n_ [5, 9]) ((fun i => (((List.replicate 64 [(.bool false)]).flatten).drop (i * 1)).take 1) i_)))], []⟩ [] hq trivial ?_; refine Af (Cg (st' := ⟨[(0, (F6 a_pred)), (2, (.int .i64 a_head)), (3, (Y7 a_begins)), (5, (.vpt 5 64 0 0)), (9, (.vpt 9 64 0 0))], [(5, .arr 1 53 64 (Ha a_reached)), (9, .arr 1 53 64 (fun i => eB ((List.replicate 64 false).getD i false)))], []⟩) (TmpsLe.refl _) (.same (.arr (Id (e := eB) (d := false) (z := [(.bool false)]) rfl rfl rfl) .nil))) ?_; obtain ⟨hc3, h⟩ := Ab h; refine B7 [] [] ⟨[(0, (F6 a_pred)), (3, (Y7 a_begins)), (5, (.vpt 5 64 0 0)), (9, (.vpt 9 64 0 0))], [(5, .arr 1 53 64 (Ha a_reached)), (9, .arr 1 53 64 (fun i_ => AV.eraseAll (fun n_ => Cb n_ [5, 9]) ((Ff (fun i => eB ((List.replicate 64 false).getD i false)) (a_head).toNat 0 [(.bool true)]) i_)))], []⟩ [(A4 a_head 64), (64 = 64)] hq ⟨hc3, rfl, trivial⟩ ?_; refine Af (Cg (st' := ⟨[(0, (F6 a_pred)), (3, (Y7 a_begins)), (5, (.vpt 5 64 0 0)), (9, (.vpt 9 64 0 0))], [(5, .arr 1 53 64 (Ha a_reached)), (9, .arr 1 53 64 (Zo a_head))], []⟩) (TmpsLe.refl _) (.same (.arr (Be rfl (fun k_ hk_ => (congrArg (AV.eraseAll (fun n_ => Cb n_ [5, 9])) ((Fk (fun _ _ => rfl) (D7 hc3) rfl) k_ hk_)).trans rfl)) .nil))) ?_; obtain ⟨x4, hx4, h⟩ := bind_some h; refine B7 [⟨[], [(20000, 15)], (.vsl 20000 x4.length), [(20000, .arr 1 3 x4.length (Q192 x4))], []⟩] [] ⟨[(0, (F6 a_pred)), (5, (.vpt 5 64 0 0)), (9, (.vpt 9 64 0 0)), (10, (.vsl 15 x4.length))], (Q193 a_reached a_head x4), []⟩ [(Spec Try.prog 42 [(Y7 a_begins)] [] (.vsl 20000 x4.length) [(20000, .arr 1 3 x4.length (Q192 x4))])] hq ⟨(In a_begins x4 hx4), trivial⟩ ?_; refine Ae ?_; refine O8 ?_; refine Aa ?_; refine Ae ?_; refine As ⟨[(0, (F6 a_pred)), (5, (.vpt 5 64 0 0)), (9, (.vpt 9 64 0 0)), (10, (.vsl 15 x4.length)), (18, (.bool (((x4.length : Int) : Int) == (0 : Int))))], (Q193 a_reached a_head x4), []⟩ hq ?_; refine Aj (((x4.length : Int) : Int) == (0 : Int)) (by kernel_rfl) (fun hb => ?_) (fun hb => ?_)
    · replace h := Ao hb h; clear hb; obtain ⟨x5, hx5, h⟩ := bind_some h; refine B7 [⟨[], [(20000, 20)], (AV.list 1 Ad (0 : Int) x5 (.own 20000)), [(20000, .tok 1 3 x5.length)], []⟩] [] ⟨[(8, (AV.list 1 Ad (0 : Int) x5 (.own 20)))], [(20, .tok 1 3 x5.length)], []⟩ [(64 = 64), (Spec Try.prog 46 [(.agg (Fz (Q186 a_head)))] [] (AV.list 1 Ad (0 : Int) x5 (.own 20000)) [(20000, .tok 1 3 x5.length)])] hq ⟨rfl, (Hv (Q186 a_head) x5 hx5), trivial⟩ ?_; refine Ar ?_; refine A0 ?_; obtain rfl := OI h; exact ⟨(by intro l hh; cases hh), rfl, ⟨.inl rfl, [(20, 20000)], by kernel_rfl⟩⟩
    · replace h := Au hb h; clear hb; refine Ai ?_; refine Aa ?_; obtain ⟨hc6, h⟩ := Ab h; refine B7 [] [] ⟨[(0, (F6 a_pred)), (5, (.vpt 5 64 0 0)), (9, (.vpt 9 64 0 0)), (10, (.vsl 15 x4.length)), (11, (.int .i64 (Lb x4)))], (Q193 a_reached a_head x4), []⟩ [(A4 (Bg ((x4.length : Int) - (1 : Int))) x4.length), (x4.length = x4.length)] hq ⟨hc6, rfl, trivial⟩ ?_; obtain ⟨hc7, h⟩ := Ab h; refine B7 [] [] ⟨[(0, (F6 a_pred)), (5, (.vpt 5 64 0 0)), (9, (.vpt 9 64 0 0)), (10, (.vsub 15 x4.length 0 (Q189 x4))), (11, (.int .i64 (Lb x4)))], (Q193 a_reached a_head x4), []⟩ [(0 ≤ (Bg ((x4.length : Int) - (1 : Int))) ∧ 0 + ((Bg ((x4.length : Int) - (1 : Int)))).toNat ≤ x4.length)] hq ⟨hc7, trivial⟩ ?_; refine Af (Le.trans (Le.trans (Oi (t := 10) (r := 15) (k := (Q189 x4)) rfl rfl hc7.2 (by kernel_rfl) (.arr (fun _ => by kernel_rfl) (.arr (fun _ => by kernel_rfl) (.arr (fun _ => by kernel_rfl) .nil))) (by rw [hΓ]; rfl)) (B5 (st' := ⟨[(0, (F6 a_pred)), (5, (.vpt 5 64 0 0)), (9, (.vpt 9 64 0 0)), (10, (.vsl 15 (Q189 x4))), (11, (.int .i64 (Lb x4)))], [(5, .arr 1 53 64 (Ha a_reached)), (9, .arr 1 53 64 (Zo a_head)), (15, .arr 1 3 (Q189 x4) (Q192 x4))], []⟩) (by kernel_rfl))) (Le.trans (Cg (st' := ⟨[(0, (F6 a_pred)), (5, (.vpt 5 64 0 0)), (9, (.vpt 9 64 0 0)), (10, (.vsl 15 (Q189 x4))), (11, (.int .i64 (Lb x4)))], [(5, .arr 1 53 64 (Ha a_reached)), (9, .arr 1 53 64 (Zo a_head)), (15, .arr 1 3 (Q189 x4) (Q202 x4))], []⟩) (TmpsLe.refl _) (.same (.same (.arr (Qw (e := Ad) (d := (0 : Int))) .nil)))) (B5 (congrArg (fun k_ : Nat => (⟨[(0, (F6 a_pred)), (5, (.vpt 5 64 0 0)), (9, (.vpt 9 64 0 0)), (10, (.vsl 15 k_)), (11, (.int .i64 (Lb x4)))], [(5, .arr 1 53 64 (Ha a_reached)), (9, .arr 1 53 64 (Zo a_head)), (15, .arr 1 3 k_ (Q202 x4))], []⟩ : St)) (show (Q189 x4) = (Jp x4).length from Oh hc7.2))))) ?_; refine Ae ?_; obtain ⟨x15, hx15, h⟩ := bind_some h; refine Ex (fun ((l8, l9) : (List (Bool) × List (Int))) (e : Exit) (st : St) => e = .normal ∧ Le Γ st (⟨[(0, (F6 a_pred)), (5, (.vpt 5 64 0 0)), (9, (.vpt 9 64 0 0)), (10, (.vsl 15 l9.length))], [(5, .arr 1 53 64 (Ha a_reached)), (9, .arr 1 53 64 (fun i => eB (l8.getD i false))), (15, .arr 1 3 l9.length (fun i => Ad (l9.getD i (0 : Int))))], []⟩ : St)) hx15 ?_ ?_
      · clear h hx15; intro y h; obtain ⟨hc10, h⟩ := Ab h; obtain ⟨hc11, h⟩ := Ab h; refine B7 [] [] ⟨[(0, (F6 a_pred)), (5, (.vpt 5 64 0 0)), (9, (.vpt 9 64 0 0)), (10, (.vsl 15 (Jp x4).length)), (11, (.int .i64 (Lb x4))), (40, (.bool (bif (Qg a_reached x4) then (!((Q186 a_head).getD ((Lb x4)).toNat false)) else false)))], [(5, .arr 1 53 64 (Ha a_reached)), (9, .arr 1 53 64 (Zo a_head)), (15, .arr 1 3 ((Jp x4).length) (Q202 x4))], []⟩ [(A4 (Lb x4) 64), (64 = 64), (((Qg a_reached x4) == true) = true → ((Qg a_reached x4) == true) = true), (((Qg a_reached x4) == true) = true → (A4 (Lb x4) 64)), (((Qg a_reached x4) == true) = true → ((Qg a_reached x4) == true) = true), (((Qg a_reached x4) == true) = true → (64 = 64)), (((Qg a_reached x4) == true) = true → ((Qg a_reached x4) == true) = true), ((Qg a_reached x4) = true → ((Qg a_reached x4) == true) = true)] hq ⟨hc10, rfl, (fun hg => hg), (fun hg => (hc11 hg)), (fun hg => hg), (fun hg => rfl), (fun hg => hg), gT, trivial⟩ ?_; refine Aj (bif (Qg a_reached x4) then (!((Q186 a_head).getD ((Lb x4)).toNat false)) else false) (by kernel_rfl) (fun hb => ?_) (fun hb => ?_)
        · replace h := Ao hb h; clear hb; obtain ⟨hc12, h⟩ := Ab h; refine B7 [] [] ⟨[(0, (F6 a_pred)), (5, (.vpt 5 64 0 0)), (9, (.vpt 9 64 0 0)), (10, (.vsl 15 (Jp x4).length)), (11, (.int .i64 (Lb x4)))], [(5, .arr 1 53 64 (Ha a_reached)), (9, .arr 1 53 64 (fun i_ => AV.eraseAll X0 ((Ff (Zo a_head) ((Lb x4)).toNat 0 [(.bool true)]) i_))), (15, .arr 1 3 ((Jp x4).length) (Q202 x4))], []⟩ [(A4 (Lb x4) 64), (64 = 64)] hq ⟨hc12, rfl, trivial⟩ ?_; refine Af (Cg (st' := ⟨[(0, (F6 a_pred)), (5, (.vpt 5 64 0 0)), (9, (.vpt 9 64 0 0)), (10, (.vsl 15 (Jp x4).length)), (11, (.int .i64 (Lb x4)))], [(5, .arr 1 53 64 (Ha a_reached)), (9, .arr 1 53 64 (Q199 a_head x4)), (15, .arr 1 3 ((Jp x4).length) (Q202 x4))], []⟩) (TmpsLe.refl _) (.same (.arr (Be rfl (fun k_ hk_ => (congrArg (AV.eraseAll X0) ((Fk (fun _ _ => rfl) (D7 hc12) rfl) k_ hk_)).trans rfl)) (.same .nil)))) ?_; obtain ⟨hc13, h⟩ := Ab h; obtain ⟨hc14, h⟩ := Ab h; refine rg [] [] ⟨[(0, (F6 a_pred)), (5, (.vpt 5 64 0 0)), (9, (.vpt 9 64 0 0)), (10, (.vsl 15 ((Jp x4).length + (T7 a_pred x4).length)))], [(5, .arr 1 53 64 (Ha a_reached)), (9, .arr 1 53 64 (Q199 a_head x4)), (15, .arr 1 3 ((Jp x4).length + (T7 a_pred x4).length) (fun i_ => AV.eraseAll X0 ((E8 ((Jp x4).length) (Q202 x4) (fun i => Ad ((T7 a_pred x4).getD i (0 : Int)))) i_)))], []⟩ [(A4 (Lb x4) a_pred.length), ((Jp x4).length = (Jp x4).length), ((Jp x4).length + (T7 a_pred x4).length ≤ room)] hq ⟨hc13, rfl, hc14, trivial⟩ ?_; obtain rfl := OI h; exact ⟨rfl, Le.trans (Le.trans (Cg (st' := ⟨[(0, (F6 a_pred)), (5, (.vpt 5 64 0 0)), (9, (.vpt 9 64 0 0)), (10, (.vsl 15 ((Jp x4).length + (T7 a_pred x4).length)))], [(5, .arr 1 53 64 (Ha a_reached)), (9, .arr 1 53 64 (Q199 a_head x4)), (15, .arr 1 3 ((Jp x4).length + (T7 a_pred x4).length) (fun i => Ad (((Jp x4) ++ (T7 a_pred x4)).getD i (0 : Int))))], []⟩) (TmpsLe.refl _) (.same (.same (.arr (Be (Eg _ _) (fun k_ hk_ => (congrArg (AV.eraseAll X0) ((Jw (fun _ _ => rfl) (fun _ _ => rfl)) k_ hk_)).trans rfl)) .nil)))) (B5 (congrArg (fun k_ : Nat => (⟨[(0, (F6 a_pred)), (5, (.vpt 5 64 0 0)), (9, (.vpt 9 64 0 0)), (10, (.vsl 15 k_))], [(5, .arr 1 53 64 (Ha a_reached)), (9, .arr 1 53 64 (Q199 a_head x4)), (15, .arr 1 3 k_ (fun i => Ad (((Jp x4) ++ (T7 a_pred x4)).getD i (0 : Int))))], []⟩ : St)) (show ((Jp x4).length + (T7 a_pred x4).length) = ((Jp x4) ++ (T7 a_pred x4)).length from (Eg _ _))))) (Le.refl _ _)⟩
        · replace h := Au hb h; clear hb; refine Ai ?_; obtain rfl := OI h; exact ⟨rfl, Fo [0, 5, 9, 10] [5, 9, 15] hq⟩
      · clear hx15; rcases x15 with ⟨l8, l9⟩; rintro e st' ⟨rfl, hl16⟩; refine Aa ?_; refine Af hl16 ?_; refine Hr ?_; obtain rfl := OI h; exact ⟨rfl, rfl, Le.refl _ _⟩
  · clear h hx29; rintro ⟨l1, l2⟩ y rest hf h; obtain rfl := OI hf; clear hf; unfold Do at h; refine Ae ?_; refine Ai ?_; refine Aa ?_; refine Ae ?_; refine As ⟨[(0, (F6 a_pred)), (5, (.vpt 5 64 0 0)), (9, (.vpt 9 64 0 0)), (10, (.vsl 15 l2.length)), (18, (.bool (((l2.length : Int) : Int) == (0 : Int))))], (Q194 a_reached l1 l2), []⟩ hq ?_; refine Aj (((l2.length : Int) : Int) == (0 : Int)) (by kernel_rfl) (fun hb => ?_) (fun hb => ?_)
    · replace h := Ao hb h; clear hb; obtain ⟨x17, hx17, h⟩ := bind_some h; refine B7 [⟨[], [(20000, 20)], (AV.list 1 Ad (0 : Int) x17 (.own 20000)), [(20000, .tok 1 3 x17.length)], []⟩] [] ⟨[(8, (AV.list 1 Ad (0 : Int) x17 (.own 20)))], [(20, .tok 1 3 x17.length)], []⟩ [(64 = 64), (Spec Try.prog 46 [(.agg (Fz l1))] [] (AV.list 1 Ad (0 : Int) x17 (.own 20000)) [(20000, .tok 1 3 x17.length)])] hq ⟨rfl, (Hv l1 x17 hx17), trivial⟩ ?_; refine Ar ?_; refine A0 ?_; obtain rfl := OI h; exact ⟨(by intro l hh; cases hh), rfl, ⟨.inl rfl, [(20, 20000)], by kernel_rfl⟩⟩
    · replace h := Au hb h; clear hb; refine Ai ?_; refine Aa ?_; obtain ⟨hc18, h⟩ := Ab h; refine B7 [] [] ⟨[(0, (F6 a_pred)), (5, (.vpt 5 64 0 0)), (9, (.vpt 9 64 0 0)), (10, (.vsl 15 l2.length)), (11, (.int .i64 (Lh l2)))], (Q194 a_reached l1 l2), []⟩ [(A4 (Bg ((l2.length : Int) - (1 : Int))) l2.length), (l2.length = l2.length)] hq ⟨hc18, rfl, trivial⟩ ?_; obtain ⟨hc19, h⟩ := Ab h; refine B7 [] [] ⟨[(0, (F6 a_pred)), (5, (.vpt 5 64 0 0)), (9, (.vpt 9 64 0 0)), (10, (.vsub 15 l2.length 0 (Y0 l2))), (11, (.int .i64 (Lh l2)))], (Q194 a_reached l1 l2), []⟩ [(0 ≤ (Bg ((l2.length : Int) - (1 : Int))) ∧ 0 + ((Bg ((l2.length : Int) - (1 : Int)))).toNat ≤ l2.length)] hq ⟨hc19, trivial⟩ ?_; refine Af (Le.trans (Le.trans (Oi (t := 10) (r := 15) (k := (Y0 l2)) rfl rfl hc19.2 (by kernel_rfl) (.arr (fun _ => by kernel_rfl) (.arr (fun _ => by kernel_rfl) (.arr (fun _ => by kernel_rfl) .nil))) (by rw [hΓ]; rfl)) (B5 (st' := ⟨[(0, (F6 a_pred)), (5, (.vpt 5 64 0 0)), (9, (.vpt 9 64 0 0)), (10, (.vsl 15 (Y0 l2))), (11, (.int .i64 (Lh l2)))], [(5, .arr 1 53 64 (Ha a_reached)), (9, .arr 1 53 64 (Q191 l1)), (15, .arr 1 3 (Y0 l2) (fun i => Ad (l2.getD i (0 : Int))))], []⟩) (by kernel_rfl))) (Le.trans (Cg (st' := ⟨[(0, (F6 a_pred)), (5, (.vpt 5 64 0 0)), (9, (.vpt 9 64 0 0)), (10, (.vsl 15 (Y0 l2))), (11, (.int .i64 (Lh l2)))], [(5, .arr 1 53 64 (Ha a_reached)), (9, .arr 1 53 64 (Q191 l1)), (15, .arr 1 3 (Y0 l2) (Q201 l2))], []⟩) (TmpsLe.refl _) (.same (.same (.arr (Qw (e := Ad) (d := (0 : Int))) .nil)))) (B5 (congrArg (fun k_ : Nat => (⟨[(0, (F6 a_pred)), (5, (.vpt 5 64 0 0)), (9, (.vpt 9 64 0 0)), (10, (.vsl 15 k_)), (11, (.int .i64 (Lh l2)))], [(5, .arr 1 53 64 (Ha a_reached)), (9, .arr 1 53 64 (Q191 l1)), (15, .arr 1 3 k_ (Q201 l2))], []⟩ : St)) (show (Y0 l2) = (Jq l2).length from Oh hc19.2))))) ?_; refine Ae ?_; obtain ⟨x27, hx27, h⟩ := bind_some h; refine Ex (fun ((l20, l21) : (List (Bool) × List (Int))) (e : Exit) (st : St) => e = .normal ∧ Le Γ st (⟨[(0, (F6 a_pred)), (5, (.vpt 5 64 0 0)), (9, (.vpt 9 64 0 0)), (10, (.vsl 15 l21.length))], [(5, .arr 1 53 64 (Ha a_reached)), (9, .arr 1 53 64 (fun i => eB (l20.getD i false))), (15, .arr 1 3 l21.length (fun i => Ad (l21.getD i (0 : Int))))], []⟩ : St)) hx27 ?_ ?_
      · clear h hx27; intro y h; obtain ⟨hc22, h⟩ := Ab h; obtain ⟨hc23, h⟩ := Ab h; refine B7 [] [] ⟨[(0, (F6 a_pred)), (5, (.vpt 5 64 0 0)), (9, (.vpt 9 64 0 0)), (10, (.vsl 15 (Jq l2).length)), (11, (.int .i64 (Lh l2))), (40, (.bool (bif (Qj a_reached l2) then (!(l1.getD ((Lh l2)).toNat false)) else false)))], [(5, .arr 1 53 64 (Ha a_reached)), (9, .arr 1 53 64 (Q191 l1)), (15, .arr 1 3 ((Jq l2).length) (Q201 l2))], []⟩ [(A4 (Lh l2) 64), (64 = 64), (((Qj a_reached l2) == true) = true → ((Qj a_reached l2) == true) = true), (((Qj a_reached l2) == true) = true → (A4 (Lh l2) 64)), (((Qj a_reached l2) == true) = true → ((Qj a_reached l2) == true) = true), (((Qj a_reached l2) == true) = true → (64 = 64)), (((Qj a_reached l2) == true) = true → ((Qj a_reached l2) == true) = true), ((Qj a_reached l2) = true → ((Qj a_reached l2) == true) = true)] hq ⟨hc22, rfl, (fun hg => hg), (fun hg => (hc23 hg)), (fun hg => hg), (fun hg => rfl), (fun hg => hg), gT, trivial⟩ ?_; refine Aj (bif (Qj a_reached l2) then (!(l1.getD ((Lh l2)).toNat false)) else false) (by kernel_rfl) (fun hb => ?_) (fun hb => ?_)
        · replace h := Ao hb h; clear hb; obtain ⟨hc24, h⟩ := Ab h; refine B7 [] [] ⟨[(0, (F6 a_pred)), (5, (.vpt 5 64 0 0)), (9, (.vpt 9 64 0 0)), (10, (.vsl 15 (Jq l2).length)), (11, (.int .i64 (Lh l2)))], [(5, .arr 1 53 64 (Ha a_reached)), (9, .arr 1 53 64 (fun i_ => AV.eraseAll X0 ((Ff (Q191 l1) ((Lh l2)).toNat 0 [(.bool true)]) i_))), (15, .arr 1 3 ((Jq l2).length) (Q201 l2))], []⟩ [(A4 (Lh l2) 64), (64 = 64)] hq ⟨hc24, rfl, trivial⟩ ?_; refine Af (Cg (st' := ⟨[(0, (F6 a_pred)), (5, (.vpt 5 64 0 0)), (9, (.vpt 9 64 0 0)), (10, (.vsl 15 (Jq l2).length)), (11, (.int .i64 (Lh l2)))], [(5, .arr 1 53 64 (Ha a_reached)), (9, .arr 1 53 64 (Q200 l1 l2)), (15, .arr 1 3 ((Jq l2).length) (Q201 l2))], []⟩) (TmpsLe.refl _) (.same (.arr (Be rfl (fun k_ hk_ => (congrArg (AV.eraseAll X0) ((Fk (fun _ _ => rfl) (D7 hc24) rfl) k_ hk_)).trans rfl)) (.same .nil)))) ?_; obtain ⟨hc25, h⟩ := Ab h; obtain ⟨hc26, h⟩ := Ab h; refine rg [] [] ⟨[(0, (F6 a_pred)), (5, (.vpt 5 64 0 0)), (9, (.vpt 9 64 0 0)), (10, (.vsl 15 ((Jq l2).length + (Th a_pred l2).length)))], [(5, .arr 1 53 64 (Ha a_reached)), (9, .arr 1 53 64 (Q200 l1 l2)), (15, .arr 1 3 ((Jq l2).length + (Th a_pred l2).length) (fun i_ => AV.eraseAll X0 ((E8 ((Jq l2).length) (Q201 l2) (fun i => Ad ((Th a_pred l2).getD i (0 : Int)))) i_)))], []⟩ [(A4 (Lh l2) a_pred.length), ((Jq l2).length = (Jq l2).length), ((Jq l2).length + (Th a_pred l2).length ≤ room)] hq ⟨hc25, rfl, hc26, trivial⟩ ?_; obtain rfl := OI h; exact ⟨rfl, Le.trans (Le.trans (Cg (st' := ⟨[(0, (F6 a_pred)), (5, (.vpt 5 64 0 0)), (9, (.vpt 9 64 0 0)), (10, (.vsl 15 ((Jq l2).length + (Th a_pred l2).length)))], [(5, .arr 1 53 64 (Ha a_reached)), (9, .arr 1 53 64 (Q200 l1 l2)), (15, .arr 1 3 ((Jq l2).length + (Th a_pred l2).length) (fun i => Ad (((Jq l2) ++ (Th a_pred l2)).getD i (0 : Int))))], []⟩) (TmpsLe.refl _) (.same (.same (.arr (Be (Eg _ _) (fun k_ hk_ => (congrArg (AV.eraseAll X0) ((Jw (fun _ _ => rfl) (fun _ _ => rfl)) k_ hk_)).trans rfl)) .nil)))) (B5 (congrArg (fun k_ : Nat => (⟨[(0, (F6 a_pred)), (5, (.vpt 5 64 0 0)), (9, (.vpt 9 64 0 0)), (10, (.vsl 15 k_))], [(5, .arr 1 53 64 (Ha a_reached)), (9, .arr 1 53 64 (Q200 l1 l2)), (15, .arr 1 3 k_ (fun i => Ad (((Jq l2) ++ (Th a_pred l2)).getD i (0 : Int))))], []⟩ : St)) (show ((Jq l2).length + (Th a_pred l2).length) = ((Jq l2) ++ (Th a_pred l2)).length from (Eg _ _))))) (Le.refl _ _)⟩
        · replace h := Au hb h; clear hb; refine Ai ?_; obtain rfl := OI h; exact ⟨rfl, Fo [0, 5, 9, 10] [5, 9, 15] hq⟩
      · clear hx27; rcases x27 with ⟨l20, l21⟩; rintro e st' ⟨rfl, hl28⟩; refine Aa ?_; refine Af hl28 ?_; refine Hr ?_; obtain rfl := OI h; exact ⟨rfl, rfl, Le.refl _ _⟩
  · clear hx29; rintro e st' ⟨rfl, hk⟩; obtain rfl := OI h; exact hk
def Ej (x1 : List ((Int × Int))) : (Int × List (List (Int))) → Option (LR (Int × List (List (Int))) (List (List (Int)))) :=
  fun ((i2, l3) : (Int × List (List (Int)))) => (bif (decide ((i2 : Int) < (x1.length : Int))) then (Cc (A4 i2 x1.length) (Cc (A4 (x1.getD (i2).toNat ((0 : Int), (0 : Int))).2 64) (Cc (A4 (x1.getD (i2).toNat ((0 : Int), (0 : Int))).2 64) (Cc (((Fj 64 [] l3).getD ((x1.getD (i2).toNat ((0 : Int), (0 : Int))).2).toNat []).length + ([(x1.getD (i2).toNat ((0 : Int), (0 : Int))).1] : List (Int)).length ≤ room) (Cc (A4 (x1.getD (i2).toNat ((0 : Int), (0 : Int))).2 64) (some (.next ((Bg (i2 + (1 : Int))), ((Fj 64 [] l3).set ((x1.getD (i2).toNat ((0 : Int), (0 : Int))).2).toNat (((Fj 64 [] l3).getD ((x1.getD (i2).toNat ((0 : Int), (0 : Int))).2).toNat []) ++ ([(x1.getD (i2).toNat ((0 : Int), (0 : Int))).1] : List (Int)))))))))))) else (some (.done l3)))
def Cj (a_g : An) (l4 : List (List (Int))) (x13 : List (Bool)) : (List (Ax) × Int) → Option (LR (List (Ax) × Int) (List (Ax))) :=
  fun ((l14, i15) : (List (Ax) × Int)) => (bif (decide ((i15 : Int) < (64 : Int))) then (Option.bind (α := List (Ax)) (Cc (A4 i15 64) (bif (decide (((0 : Int) : Int) < ((l4.getD (i15).toNat []).length : Int))) then ((Hw a_g.Pred x13 i15 (l4.getD (i15).toNat [])).bind fun x19 => (Cc (l14.length + ([(⟨i15, x19⟩ : Ax)] : List (Ax)).length ≤ room) (some ((l14 ++ ([(⟨i15, x19⟩ : Ax)] : List (Ax))))))) else (some (l14)))) (fun x21 => ((some (.next (x21, (Bg (i15 + (1 : Int))))))))) else (some (.done l14)))
def M1 := (default : Ax)
def Qh (x10 : List (List (Int))) : AV := (.agg (Wl x10))
def Vc (x13 : List (Bool)) := (fun i => eB (x13.getD i false))
def Ql (i15 : Int) (x19 : List (Int)) := ([(⟨i15, x19⟩ : Ax)] : List (Ax))
def Hu (x1 : List ((Int × Int))) (i2 : Int) := (x1.getD (i2).toNat ((0 : Int), (0 : Int)))
def Rl (l3 : List (List (Int))) (x1 : List ((Int × Int))) (i2 : Int) := ((Fj 64 [] l3).getD ((Hu x1 i2).2).toNat [])
def Q211 := (Fj 64 [] (List.replicate 64 ([] : List (Int))))
def Q214 (l14 : List (Ax)) : AV := (AV.list 2 Dr M1 l14 (.own 5009))
def Q219 (x1 : List ((Int × Int))) : AV := (AV.list 2 Cr ((0 : Int), (0 : Int)) x1 (.own 13))
def Q213 (l3 : List (List (Int))) := (Cv 1 Ad (0 : Int) (Fj 64 [] l3) (Tag.fam 70003))
def Q215 (x10 : List (List (Int))) := (Cv 1 Ad (0 : Int) (Fj 64 [] x10) (Tag.fam 70003))
def Q212 (x10 : List (List (Int))) (i15 : Int) : AV := (AV.list 1 Ad (0 : Int) (x10.getD (i15).toNat []) .none)
def Zj (l3 : List (List (Int))) (x1 : List ((Int × Int))) (i2 : Int) := ((Rl l3 x1 i2) ++ ([(Hu x1 i2).1] : List (Int)))
def Q223 (l3 : List (List (Int))) (x1 : List ((Int × Int))) (i2 : Int) := ((Fj 64 [] l3).set ((Hu x1 i2).2).toNat (Zj l3 x1 i2))
def Q210 : AV := (AV.list 2 Dr M1 ([] : List Ax) .exact)
def Iw (a_g : An) : List AV := [(AV.list 1 eLI64 [] a_g.Succ .none), (AV.list 1 eLI64 [] a_g.Pred .none)]
def Q220 (a_g : An) (l3 : List (List (Int))) (x1 : List ((Int × Int))) : List (Nat × Own) := [(1, .row 26 (Iw a_g)), (3, .arr 1 51 64 (Q213 l3)), (13, .tok 2 45 x1.length)]
def Q218 (a_g : An) (x13 : List (Bool)) (l14 : List (Ax)) : List (Nat × Own) := [(1, .row 26 (Iw a_g)), (8, .arr 1 53 64 (Vc x13)), (5009, .tok 2 38 l14.length)]
def Q207 (x1 : List ((Int × Int))) (i2 : Int) : List (Nat × AV) := [(1, (.ptr 1 0)), (3, (.vpt 3 64 0 0)), (13, (Q219 x1)), (14, (.int .i64 (x1.length : Int))), (15, (.int .i64 i2))]
def Q224 (x1 : List ((Int × Int))) (i2 : Int) : List (Nat × AV) := [(1, (.ptr 1 0)), (3, (.vpt 3 64 0 0)), (6, (.int .i64 (Hu x1 i2).1)), (7, (.int .i64 (Hu x1 i2).2)), (13, (Q219 x1)), (14, (.int .i64 (x1.length : Int))), (15, (.int .i64 i2))]
def Fc (a_g : An) : Option (List (Ax)) :=
  ((Eh a_g).bind fun x1 => ((At (S := (Int × List (List (Int)))) (X := List (List (Int))) (Ej x1) ((0 : Int), (List.replicate 64 ([] : List (Int))))).bind (fun x10 => (((Dd a_g (0 : Int)).bind fun x12 => ((Fl x12).bind fun x13 => ((At (S := (List (Ax) × Int)) (X := List (Ax)) (Cj a_g x10 x13) (([] : List Ax), (0 : Int))).bind (fun x23 => ((some x23))))))))))
theorem Je (a_g : An) (r : List (Ax)) (h : Fc a_g = some r) : Spec Try.prog 12 [(.agg (Bx a_g))] [] (AV.list 2 Dr (default : Ax) r (.own 20000)) [(20000, .tok 2 38 r.length)] := by
  refine Ap (fn := Try.f12) Try.func12 rfl rfl (by kernel_rfl) (fun Γ hn hΓ => ?_); have hq : RgQ Try.prog Γ 56 [] := ⟨hn, mix, hΓ⟩; unfold Fc at h; refine B7 [] [(2, Q210)] ⟨[(1, (.ptr 1 0))], [(1, .row 26 (Iw a_g))], []⟩ [(AVle (.slice 0 0 (fun _ => []) .exact) Q210)] hq ⟨Ea, trivial⟩ ?_; refine B7 [] [(3, (.vpt 3 64 0 0))] ⟨[(1, (.ptr 1 0)), (3, (.vpt 3 64 0 0))], [(1, .row 26 (Iw a_g)), (3, .arr 1 51 64 (fun i_ => AV.eraseAll (fun n_ => Cb n_ [1, 3]) ((fun i => (((List.replicate 64 [(.slice 0 0 (fun _ => []) .exact)]).flatten).drop (i * 1)).take 1) i_)))], []⟩ [] hq trivial ?_; refine Af (Le.trans (Cg (st' := ⟨[(1, (.ptr 1 0)), (3, (.vpt 3 64 0 0))], [(1, .row 26 (Iw a_g)), (3, .arr 1 51 64 (Cv 1 Ad (0 : Int) Q211 (fun _ => .exact)))], []⟩) (TmpsLe.refl _) (.same (.arr V0 .nil))) (Le.trans (Tc (r := 3) (b := 70003) Ad (0 : Int) Q211 3 rfl rfl padN_len.symm (fun h_ => absurd h_ (by decide))) (B5 (st' := ⟨[(1, (.ptr 1 0)), (3, (.vpt 3 64 0 0))], [(1, .row 26 (Iw a_g)), (3, .arr 1 51 64 (Cv 1 Ad (0 : Int) Q211 (Tag.fam 70003)))], [(70003, ⟨1, 3, Cz Q211⟩)]⟩) (by kernel_rfl)))) ?_; refine Ae ?_; obtain ⟨x1, hx1, h⟩ := bind_some h; refine B7 [⟨[], [(20000, 13)], (AV.list 2 Cr ((0 : Int), (0 : Int)) x1 (.own 20000)), [(20000, .tok 2 45 x1.length)], []⟩] [] ⟨[(1, (.ptr 1 0)), (3, (.vpt 3 64 0 0)), (13, (Q219 x1)), (14, (.int .i64 (x1.length : Int))), (15, (.int .i64 (0 : Int)))], [(1, .row 26 (Iw a_g)), (3, .arr 1 51 64 (Cv 1 Ad (0 : Int) Q211 (Tag.fam 70003))), (13, .tok 2 45 x1.length)], [(70003, ⟨1, 3, Cz Q211⟩)]⟩ [(Spec Try.prog 18 [(.agg (Bx a_g))] [] (AV.list 2 Cr ((0 : Int), (0 : Int)) x1 (.own 20000)) [(20000, .tok 2 45 x1.length)])] hq ⟨(Jk a_g x1 hx1), trivial⟩ ?_; refine Ah ?_; refine Af (st' := (fun ((i2, l3) : (Int × List (List (Int)))) => (⟨(Q207 x1 i2), (Q220 a_g l3 x1), [(70003, ⟨1, 3, Cz (Fj 64 [] l3)⟩)]⟩ : St)) ((0 : Int), (List.replicate 64 ([] : List (Int))))) (Le.refl _ _) ?_; obtain ⟨x10, hx10, h⟩ := bind_some h; refine A8 (fun ((i2, l3) : (Int × List (List (Int)))) => (⟨(Q207 x1 i2), (Q220 a_g l3 x1), [(70003, ⟨1, 3, Cz (Fj 64 [] l3)⟩)]⟩ : St)) _ (fun (l4 : List (List (Int))) (e : Exit) (st : St) => e = (.exit 0) ∧ Le Γ st (⟨[(1, (.ptr 1 0)), (3, (.vpt 3 64 0 0))], [(1, .row 26 (Iw a_g)), (3, .arr 1 51 64 (Cv 1 Ad (0 : Int) (Fj 64 [] l4) (Tag.fam 70003)))], [(70003, ⟨1, 3, Cz (Fj 64 [] l4)⟩)]⟩ : St)) ?_ hx10 ?_
  · rintro ⟨i2, l3⟩ y h; unfold Ej at h; refine As ⟨[(1, (.ptr 1 0)), (3, (.vpt 3 64 0 0)), (13, (Q219 x1)), (14, (.int .i64 (x1.length : Int))), (15, (.int .i64 i2)), (16, (.bool (decide ((i2 : Int) < (x1.length : Int)))))], (Q220 a_g l3 x1), [(70003, ⟨1, 3, Cz (Fj 64 [] l3)⟩)]⟩ hq ?_; refine Ae ?_; refine Aj (decide ((i2 : Int) < (x1.length : Int))) (by kernel_rfl) (fun hb => ?_) (fun hb => ?_)
    · replace h := Ao hb h; clear hb; refine Ai ?_; refine Aa ?_; refine Ae ?_; refine Ah ?_; obtain ⟨hc5, h⟩ := Ab h; refine B7 [] [] ⟨[(1, (.ptr 1 0)), (3, (.vpt 3 64 0 0)), (5, (.ptr 5 0)), (13, (Q219 x1)), (14, (.int .i64 (x1.length : Int))), (15, (.int .i64 i2))], [(1, .row 26 (Iw a_g)), (3, .arr 1 51 64 (Q213 l3)), (5, .row 45 [(.int .i64 (Hu x1 i2).1), (.int .i64 (Hu x1 i2).2)]), (13, .tok 2 45 x1.length)], [(70003, ⟨1, 3, Cz (Fj 64 [] l3)⟩)]⟩ [(A4 i2 x1.length)] hq ⟨hc5, trivial⟩ ?_; refine B7 [] [] ⟨(Q224 x1 i2), (Q220 a_g l3 x1), [(70003, ⟨1, 3, Cz (Fj 64 [] l3)⟩)]⟩ [(A4 (0 : Int) 2), (A4 (1 : Int) 2)] hq ⟨(by decide), (by decide), trivial⟩ ?_; obtain ⟨hc6, h⟩ := Ab h; obtain ⟨hc7, h⟩ := Ab h; obtain ⟨hc8, h⟩ := Ab h; obtain ⟨hc9, h⟩ := Ab h; refine Af (Le.trans (Vt (r := 3) (b := 70003) (k := 60003) Ad (0 : Int) (Fj 64 [] l3) ((Hu x1 i2).2).toNat 3 rfl rfl rfl padN_len.symm (V1 (D7 hc6)) (by kernel_rfl) (.row (by kernel_rfl) (.here (.tok .nil)))) (B5 (st' := ⟨(Q224 x1 i2), [(1, .row 26 (Iw a_g)), (3, .arr 1 51 64 (Cv 1 Ad (0 : Int) (Fj 64 [] l3) (Dk 70003 ((Hu x1 i2).2).toNat 60003))), (13, .tok 2 45 x1.length), (60003, .tok 1 3 ((Rl l3 x1 i2).length))], [(70003, ⟨1, 3, Js (Fj 64 [] l3) ((Hu x1 i2).2).toNat⟩)]⟩) (by kernel_rfl))) ?_; refine rg [] [(26, (AV.list 1 Ad (0 : Int) (Rl l3 x1 i2) (.own 60003))), (28, (AV.list 1 Ad (0 : Int) ([(Hu x1 i2).1] : List (Int)) .exact)), (29, (AV.list 1 Ad (0 : Int) (Zj l3 x1 i2) (.own 60003)))] ⟨(Q207 x1 i2), [(1, .row 26 (Iw a_g)), (3, .arr 1 51 64 (fun i_ => AV.eraseAll (fun n_ => Cb n_ [1, 3, 13, 60003, 70003]) ((Ff (Cv 1 Ad (0 : Int) (Fj 64 [] l3) (Dk 70003 ((Hu x1 i2).2).toNat 60003)) ((Hu x1 i2).2).toNat 0 [(AV.list 1 Ad (0 : Int) (Zj l3 x1 i2) (.own 60003))]) i_))), (13, .tok 2 45 x1.length), (60003, .tok 1 3 ((Zj l3 x1 i2).length))], [(70003, ⟨1, 3, Js (Fj 64 [] l3) ((Hu x1 i2).2).toNat⟩)]⟩ [(A4 (Hu x1 i2).2 64), (64 = 64), (AVle (((Cv 1 Ad (0 : Int) (Fj 64 [] l3) (Dk 70003 ((Hu x1 i2).2).toNat 60003)) ((Hu x1 i2).2).toNat).getD 0 .any) (AV.list 1 Ad (0 : Int) (Rl l3 x1 i2) (.own 60003))), (AVle (.slice 1 1 (fun i => ([[(.int .i64 (Hu x1 i2).1)]] : List (List AV)).getD i []) .exact) (AV.list 1 Ad (0 : Int) ([(Hu x1 i2).1] : List (Int)) .exact)), ((Rl l3 x1 i2).length = (Rl l3 x1 i2).length), ((Rl l3 x1 i2).length + ([(Hu x1 i2).1] : List (Int)).length ≤ room), (AVle (.slice 1 ((Rl l3 x1 i2).length + ([(Hu x1 i2).1] : List (Int)).length) (E8 (Rl l3 x1 i2).length (fun i => Ad ((Rl l3 x1 i2).getD i (0 : Int))) (fun i => Ad (([(Hu x1 i2).1] : List (Int)).getD i (0 : Int)))) (.own 60003)) (AV.list 1 Ad (0 : Int) (Zj l3 x1 i2) (.own 60003))), ((Rl l3 x1 i2).length + ([(Hu x1 i2).1] : List (Int)).length = (Zj l3 x1 i2).length), (A4 (Hu x1 i2).2 64), (64 = 64)] hq ⟨hc7, rfl, O7, (Ft rfl (fun i hi => Fa (e := Ad) (d := (0 : Int)) ([(Hu x1 i2).1] : List (Int)) i hi)), rfl, hc8, Nx, (Eg _ _), hc9, rfl, trivial⟩ ?_; refine Ak ?_; refine Aa ?_; refine Af (Le.trans (Le.trans (le_put (r := 3) (b := 70003) (k := 60003) Ad (0 : Int) (Fj 64 [] l3) ((Hu x1 i2).2).toNat (Zj l3 x1 i2) 3 rfl (Sb (V1 (D7 hc6)) rfl rfl) rfl rfl rfl padN_len.symm (V1 (D7 hc6)) (by kernel_rfl) (.row (by kernel_rfl) (.here (.tok (.tok .nil)))) (by rw [hΓ]; rfl)) (B5 (st' := ⟨(Q207 x1 i2), [(1, .row 26 (Iw a_g)), (3, .arr 1 51 64 (Cv 1 Ad (0 : Int) (Q223 l3 x1 i2) (Tag.fam 70003))), (13, .tok 2 45 x1.length)], [(70003, ⟨1, 3, Cz (Q223 l3 x1 i2)⟩)]⟩) (by kernel_rfl))) (B5 (congrArg (fun k_ : List (List (Int)) => (⟨(Q207 x1 i2), [(1, .row 26 (Iw a_g)), (3, .arr 1 51 64 (Cv 1 Ad (0 : Int) k_ (Tag.fam 70003))), (13, .tok 2 45 x1.length)], [(70003, ⟨1, 3, Cz k_⟩)]⟩ : St)) (show (Q223 l3 x1 i2) = (Fj 64 [] (Q223 l3 x1 i2)) from Uu ((List.length_set ..).trans padN_len))))) ?_; refine Kd ⟨[(1, (.ptr 1 0)), (3, (.vpt 3 64 0 0)), (13, (Q219 x1)), (14, (.int .i64 (x1.length : Int))), (15, (.int .i64 (Bg (i2 + (1 : Int)))))], [(1, .row 26 (Iw a_g)), (3, .arr 1 51 64 (Cv 1 Ad (0 : Int) (Fj 64 [] (Q223 l3 x1 i2)) (Tag.fam 70003))), (13, .tok 2 45 x1.length)], [(70003, ⟨1, 3, Cz (Fj 64 [] (Q223 l3 x1 i2))⟩)]⟩ hq ?_; obtain rfl := OI h; exact ⟨rfl, Le.refl _ _⟩
    · replace h := Au hb h; clear hb; refine A7 ?_; refine A2 ?_; obtain rfl := OI h; exact ⟨(by intro hh; cases hh), rfl, Fo [1, 3] [1, 3, 70003] hq⟩
  · clear hx10; rintro e st' ⟨rfl, hl11⟩; refine Az ?_; refine Aa ?_; refine Af hl11 ?_; obtain ⟨x12, hx12, h⟩ := bind_some h; obtain ⟨x13, hx13, h⟩ := bind_some h; refine B7 [⟨[], [(20000, 33)], (AV.list 1 Ad (0 : Int) x12 (.own 20000)), [(20000, .tok 1 3 x12.length)], []⟩, ⟨[], [], (.agg (Fz x13)), [], []⟩] [(8, (.vpt 8 64 0 0))] ⟨[(1, (.ptr 1 0)), (3, (.vpt 3 64 0 0)), (8, (.vpt 8 64 0 0))], [(1, .row 26 (Iw a_g)), (3, .arr 1 51 64 (Q215 x10)), (8, .arr 1 53 64 (fun i_ => AV.eraseAll (fun n_ => Cb n_ [1, 3, 8, 70003]) ((fun i_ => (((Fz x13)).drop (i_ * 1)).take 1) i_)))], [(70003, ⟨1, 3, Cz (Fj 64 [] x10)⟩)]⟩ [(Spec Try.prog 20 [(.agg (Bx a_g)), (.int .i64 (0 : Int))] [] (AV.list 1 Ad (0 : Int) x12 (.own 20000)) [(20000, .tok 1 3 x12.length)]), (Spec Try.prog 30 [(AV.list 1 Ad (0 : Int) x12 .none)] [] (.agg (Fz x13)) []), (64 = 64)] hq ⟨(Ir a_g (0 : Int) x12 hx12), (Rj x12 x13 hx13), rfl, trivial⟩ ?_; refine Af (Cg (st' := ⟨[(1, (.ptr 1 0)), (3, (.vpt 3 64 0 0)), (8, (.vpt 8 64 0 0))], [(1, .row 26 (Iw a_g)), (3, .arr 1 51 64 (Q215 x10)), (8, .arr 1 53 64 (Vc x13))], [(70003, ⟨1, 3, Cz (Fj 64 [] x10)⟩)]⟩) (TmpsLe.refl _) (.same (.same (.arr (Be rfl (fun k_ hk_ => (congrArg (AV.eraseAll (fun n_ => Cb n_ [1, 3, 8, 70003])) ((Kl (n := 64) (sz := 1) (f := (Vc x13)) (fun _ _ => rfl)) k_ hk_)).trans rfl)) .nil)))) ?_; refine B7 [] [(9, Q210)] ⟨[(1, (.ptr 1 0)), (3, (.vpt 3 64 0 0)), (8, (.vpt 8 64 0 0)), (9, Q210)], [(1, .row 26 (Iw a_g)), (3, .arr 1 51 64 (Q215 x10)), (8, .arr 1 53 64 (Vc x13))], [(70003, ⟨1, 3, Cz (Fj 64 [] x10)⟩)]⟩ [(AVle (.slice 0 0 (fun _ => []) .exact) Q210)] hq ⟨Ea, trivial⟩ ?_; refine Ae ?_; refine B7 [] [(35, (Qh x10))] ⟨[(1, (.ptr 1 0)), (8, (.vpt 8 64 0 0)), (9, Q210), (35, (Qh x10)), (36, (.int .i64 (0 : Int)))], [(1, .row 26 (Iw a_g)), (8, .arr 1 53 64 (Vc x13))], []⟩ [(64 = 64), (AVle (.agg (G4 64 (Q215 x10))) (Qh x10))] hq ⟨rfl, (Vb rfl), trivial⟩ ?_; refine Ah ?_; refine Af (st' := (fun ((l14, i15) : (List (Ax) × Int)) => (⟨[(1, (.ptr 1 0)), (8, (.vpt 8 64 0 0)), (9, (Q214 l14)), (35, (Qh x10)), (36, (.int .i64 i15))], (Q218 a_g x13 l14), []⟩ : St)) (([] : List Ax), (0 : Int))) (Le.trans (Pf (t := 9) (nm := 5009) (sz' := 2) (fun i => Dr (([] : List Ax).getD i M1)) 38 rfl rfl (.inl ⟨rfl, rfl⟩) (fun h_ => absurd h_ (by decide))) (Fo (st' := ⟨[(1, (.ptr 1 0)), (8, (.vpt 8 64 0 0)), (9, (AV.list 2 Dr M1 ([] : List Ax) (.own 5009))), (35, (Qh x10)), (36, (.int .i64 (0 : Int)))], [(1, .row 26 (Iw a_g)), (8, .arr 1 53 64 (Vc x13)), (5009, .tok 2 38 (([] : List Ax).length))], []⟩) [1, 8, 9, 35, 36] [1, 8, 5009] hq)) ?_; obtain ⟨x23, hx23, h⟩ := bind_some h; refine A8 (fun ((l14, i15) : (List (Ax) × Int)) => (⟨[(1, (.ptr 1 0)), (8, (.vpt 8 64 0 0)), (9, (Q214 l14)), (35, (Qh x10)), (36, (.int .i64 i15))], (Q218 a_g x13 l14), []⟩ : St)) _ (fun (l16 : List (Ax)) (e : Exit) (st : St) => e = (.exit 2) ∧ Le Γ st (⟨[(9, (AV.list 2 Dr M1 l16 (.own 5009)))], [(5009, .tok 2 38 l16.length)], []⟩ : St)) ?_ hx23 ?_
    · rintro ⟨l14, i15⟩ y h; unfold Cj at h; refine As ⟨[(1, (.ptr 1 0)), (8, (.vpt 8 64 0 0)), (9, (Q214 l14)), (35, (Qh x10)), (36, (.int .i64 i15)), (37, (.bool (decide ((i15 : Int) < (64 : Int)))))], (Q218 a_g x13 l14), []⟩ hq ?_; refine Ae ?_; refine Aj (decide ((i15 : Int) < (64 : Int))) (by kernel_rfl) (fun hb => ?_) (fun hb => ?_)
      · replace h := Ao hb h; clear hb; refine Ai ?_; refine Aa ?_; refine Ae ?_; obtain ⟨x21, hx21, h⟩ := bind_some h; refine Ex (fun (l17 : List (Ax)) (e : Exit) (st : St) => e = .normal ∧ Le Γ st (⟨[(1, (.ptr 1 0)), (8, (.vpt 8 64 0 0)), (9, (AV.list 2 Dr M1 l17 (.own 5009))), (35, (Qh x10)), (36, (.int .i64 i15))], [(1, .row 26 (Iw a_g)), (8, .arr 1 53 64 (Vc x13)), (5009, .tok 2 38 l17.length)], []⟩ : St)) hx21 ?_ ?_
        · clear h hx21; intro y h; refine Ah ?_; obtain ⟨hc18, h⟩ := Ab h; refine B7 [] [(39, (Q212 x10 i15))] ⟨[(1, (.ptr 1 0)), (8, (.vpt 8 64 0 0)), (9, (Q214 l14)), (10, (.int .i64 i15)), (11, (Q212 x10 i15)), (35, (Qh x10)), (36, (.int .i64 i15))], (Q218 a_g x13 l14), []⟩ [(A4 i15 64), (AVle ((Wl x10).getD (i15).toNat .any) (Q212 x10 i15))] hq ⟨hc18, (flat_at (n := 64) (f := fun i => eLI64 (x10.getD i [])) rfl (fun _ _ => rfl) (D7 hc18) rfl), trivial⟩ ?_; refine As ⟨[(1, (.ptr 1 0)), (8, (.vpt 8 64 0 0)), (9, (Q214 l14)), (10, (.int .i64 i15)), (11, (Q212 x10 i15)), (35, (Qh x10)), (36, (.int .i64 i15)), (42, (.bool (decide (((0 : Int) : Int) < ((x10.getD (i15).toNat []).length : Int)))))], (Q218 a_g x13 l14), []⟩ hq ?_; refine Aj (decide (((0 : Int) : Int) < ((x10.getD (i15).toNat []).length : Int))) (by kernel_rfl) (fun hb => ?_) (fun hb => ?_)
          · replace h := Ao hb h; clear hb; obtain ⟨x19, hx19, h⟩ := bind_some h; obtain ⟨hc20, h⟩ := Ab h; refine rg [⟨[], [(20000, 50)], (AV.list 1 Ad (0 : Int) x19 (.own 20000)), [(20000, .tok 1 3 x19.length)], []⟩] [(52, (AV.list 2 Dr M1 (Ql i15 x19) .exact)), (53, (AV.list 2 Dr M1 (l14 ++ (Ql i15 x19)) (.own 5009)))] ⟨[(1, (.ptr 1 0)), (8, (.vpt 8 64 0 0)), (9, (AV.list 2 Dr M1 (l14 ++ (Ql i15 x19)) (.own 5009))), (35, (Qh x10)), (36, (.int .i64 i15))], [(1, .row 26 (Iw a_g)), (8, .arr 1 53 64 (Vc x13)), (5009, .tok 2 38 ((l14 ++ (Ql i15 x19)).length))], []⟩ [(64 = 64), (Spec Try.prog 31 [(AV.list 1 eLI64 [] a_g.Pred .none), (.agg (Fz x13)), (.int .i64 i15), (Q212 x10 i15)] [] (AV.list 1 Ad (0 : Int) x19 (.own 20000)) [(20000, .tok 1 3 x19.length)]), (AVle (.slice 2 1 (fun i => ([[(.int .i64 i15), (AV.list 1 Ad (0 : Int) x19 .none)]] : List (List AV)).getD i []) .exact) (AV.list 2 Dr M1 (Ql i15 x19) .exact)), (l14.length = l14.length), (l14.length + (Ql i15 x19).length ≤ room), (AVle (.slice 2 (l14.length + (Ql i15 x19).length) (E8 l14.length (fun i => Dr (l14.getD i M1)) (fun i => Dr ((Ql i15 x19).getD i M1))) (.own 5009)) (AV.list 2 Dr M1 (l14 ++ (Ql i15 x19)) (.own 5009))), (l14.length + (Ql i15 x19).length = (l14 ++ (Ql i15 x19)).length)] hq ⟨rfl, (Vp a_g.Pred x13 i15 (x10.getD (i15).toNat []) x19 hx19), (Ft rfl (fun i hi => Fa (e := Dr) (d := M1) (Ql i15 x19) i hi)), rfl, hc20, Nx, (Eg _ _), trivial⟩ ?_; refine Ak ?_; obtain rfl := OI h; exact ⟨rfl, Le.refl _ _⟩
          · replace h := Au hb h; clear hb; refine Ai ?_; refine Ak ?_; obtain rfl := OI h; exact ⟨rfl, Fo [1, 8, 9, 35, 36] [1, 8, 5009] hq⟩
        · clear hx21; rintro e st' ⟨rfl, hl22⟩; refine Aa ?_; refine Af hl22 ?_; refine Kd ⟨[(1, (.ptr 1 0)), (8, (.vpt 8 64 0 0)), (9, (AV.list 2 Dr M1 x21 (.own 5009))), (35, (Qh x10)), (36, (.int .i64 (Bg (i15 + (1 : Int)))))], [(1, .row 26 (Iw a_g)), (8, .arr 1 53 64 (Vc x13)), (5009, .tok 2 38 x21.length)], []⟩ hq ?_; obtain rfl := OI h; exact ⟨rfl, Le.refl _ _⟩
      · replace h := Au hb h; clear hb; refine A7 ?_; refine A2 ?_; obtain rfl := OI h; exact ⟨(by intro hh; cases hh), rfl, Fo [9] [5009] hq⟩
    · clear hx23; rintro e st' ⟨rfl, hl24⟩; refine Az ?_; refine Aa ?_; refine Af hl24 ?_; refine As ⟨[(2, (AV.list 2 Dr M1 x23 (.own 5009)))], [(5009, .tok 2 38 x23.length)], []⟩ hq ?_; refine Ar ?_; obtain rfl := OI h; exact ⟨.inl rfl, [(5009, 20000)], by kernel_rfl⟩
def Bn (a_a : List (Int)) (a_b : List (Int)) : Int → Option (LR Int (Unit ⊕ Bool)) :=
  fun (i1 : Int) => (bif (decide ((i1 : Int) < (a_a.length : Int))) then (Cc (A4 i1 a_a.length) (Cc (A4 i1 a_b.length) (bif (((a_a.getD (i1).toNat (0 : Int)) : Int) != (a_b.getD (i1).toNat (0 : Int))) then (some (.done (.inr false))) else (some (.next (Bg (i1 + (1 : Int)))))))) else (some (.done (.inl ()))))
def Xp (a_a : List (Int)) : AV := (AV.list 1 Ad (0 : Int) a_a .none)
def W3 (a_b : List (Int)) : AV := (AV.list 1 Ad (0 : Int) a_b .none)
def Cw (a_a : List (Int)) (a_b : List (Int)) : Option Bool :=
  (bif (((a_a.length : Int) : Int) != (a_b.length : Int)) then (some false) else ((At (S := Int) (X := (Unit ⊕ Bool)) (Bn a_a a_b) (0 : Int)).bind (fun x4 => (match x4 with | (.inl _) => (some true) | (.inr r6) => (some r6)))))
theorem K8 (a_a : List (Int)) (a_b : List (Int)) (r : Bool) (h : Cw a_a a_b = some r) : Spec Try.prog 21 [(AV.list 1 Ad (0 : Int) a_a .none), (AV.list 1 Ad (0 : Int) a_b .none)] [] (.bool r) [] := by
  refine Ap (fn := Try.f21) Try.func21 rfl rfl (by kernel_rfl) (fun Γ hn hΓ => ?_); have hq : RgQ Try.prog Γ 26 [] := ⟨hn, mix, hΓ⟩; unfold Cw at h; refine As ⟨[(0, (Xp a_a)), (1, (W3 a_b))], [], []⟩ hq ?_; refine Ae ?_; refine As ⟨[(0, (Xp a_a)), (1, (W3 a_b)), (10, (.bool (((a_a.length : Int) : Int) != (a_b.length : Int))))], [], []⟩ hq ?_; refine Aj (((a_a.length : Int) : Int) != (a_b.length : Int)) (by kernel_rfl) (fun hb => ?_) (fun hb => ?_)
  · replace h := Ao hb h; clear hb; refine As ⟨[(4, (.bool false))], [], []⟩ hq ?_; refine Ar ?_; refine A0 ?_; obtain rfl := OI h; exact ⟨.inl rfl, [], by kernel_rfl⟩
  · replace h := Au hb h; clear hb; refine Ai ?_; refine Aa ?_; refine Ae ?_; refine As ⟨[(0, (Xp a_a)), (1, (W3 a_b)), (5, (.int .i64 (0 : Int)))], [], []⟩ hq ?_; refine Ah ?_; refine Af (st' := (fun (i1 : Int) => (⟨[(0, (Xp a_a)), (1, (W3 a_b)), (5, (.int .i64 i1))], [], []⟩ : St)) (0 : Int)) (Le.refl _ _) ?_; obtain ⟨x4, hx4, h⟩ := bind_some h; refine A8 (fun (i1 : Int) => (⟨[(0, (Xp a_a)), (1, (W3 a_b)), (5, (.int .i64 i1))], [], []⟩ : St)) _ (fun (x_ : (Unit ⊕ Bool)) (e : Exit) (st : St) => match x_ with | (.inl _) => e = (.exit 0) ∧ Le Γ st (⟨[], [], []⟩ : St) | (.inr r_) => e = .ret ∧ Jv Try.prog Try.f21.results.toList [] (.bool r_) [] e st) ?_ hx4 ?_
    · intro i1 y h; unfold Bn at h; refine Ae ?_; refine As ⟨[(0, (Xp a_a)), (1, (W3 a_b)), (5, (.int .i64 i1)), (14, (.bool (decide ((i1 : Int) < (a_a.length : Int)))))], [], []⟩ hq ?_; refine Aj (decide ((i1 : Int) < (a_a.length : Int))) (by kernel_rfl) (fun hb => ?_) (fun hb => ?_)
      · replace h := Ao hb h; clear hb; refine Ai ?_; refine Aa ?_; refine Ae ?_; refine Ah ?_; obtain ⟨hc2, h⟩ := Ab h; obtain ⟨hc3, h⟩ := Ab h; refine B7 [] [] ⟨[(0, (Xp a_a)), (1, (W3 a_b)), (5, (.int .i64 i1)), (25, (.bool (((a_a.getD (i1).toNat (0 : Int)) : Int) != (a_b.getD (i1).toNat (0 : Int)))))], [], []⟩ [(A4 i1 a_a.length), (A4 i1 a_b.length)] hq ⟨hc2, hc3, trivial⟩ ?_; refine Aj (((a_a.getD (i1).toNat (0 : Int)) : Int) != (a_b.getD (i1).toNat (0 : Int))) (by kernel_rfl) (fun hb => ?_) (fun hb => ?_)
        · replace h := Ao hb h; clear hb; refine As ⟨[(4, (.bool false))], [], []⟩ hq ?_; refine Ar ?_; refine Bc ?_; refine A0 ?_; obtain rfl := OI h; exact ⟨(by intro hh; cases hh), rfl, ⟨.inl rfl, [], by kernel_rfl⟩⟩
        · replace h := Au hb h; clear hb; refine Ai ?_; refine Ak ?_; refine Aa ?_; refine Kd ⟨[(0, (Xp a_a)), (1, (W3 a_b)), (5, (.int .i64 (Bg (i1 + (1 : Int)))))], [], []⟩ hq ?_; obtain rfl := OI h; exact ⟨rfl, Le.refl _ _⟩
      · replace h := Au hb h; clear hb; refine A7 ?_; refine A2 ?_; obtain rfl := OI h; exact ⟨(by intro hh; cases hh), rfl, Fo [] [] hq⟩
    · clear hx4; rcases x4 with _ | r6
      · rintro e st' ⟨rfl, hl5⟩; refine Az ?_; refine Aa ?_; refine Af hl5 ?_; refine As ⟨[(4, (.bool true))], [], []⟩ hq ?_; refine Ar ?_; obtain rfl := OI h; exact ⟨.inl rfl, [], by kernel_rfl⟩
      · rintro e st' ⟨rfl, hk⟩; refine Bc ?_; refine A0 ?_; obtain rfl := OI h; exact hk
def C1 (a_s : List (Int)) (a_v : Int) : Option Bool :=
  ((Cn a_s a_v).bind fun x1 => (some (decide (((0 : Int) : Int) ≤ x1))))
theorem Io (a_s : List (Int)) (a_v : Int) (r : Bool) (h : C1 a_s a_v = some r) : Spec Try.prog 38 [(AV.list 1 Ad (0 : Int) a_s .none), (.int .i64 a_v)] [] (.bool r) [] := by
  refine Ap (fn := Try.f38) Try.func38 rfl rfl (by kernel_rfl) (fun Γ hn hΓ => ?_); have hq : RgQ Try.prog Γ 9 [] := ⟨hn, mix, hΓ⟩; unfold C1 at h; refine As ⟨[(0, (AV.list 1 Ad (0 : Int) a_s .none)), (1, (.int .i64 a_v))], [], []⟩ hq ?_; obtain ⟨x1, hx1, h⟩ := bind_some h; refine B7 [⟨[], [], (.int .i64 x1), [], []⟩] [] ⟨[(4, (.bool (decide (((0 : Int) : Int) ≤ x1))))], [], []⟩ [(Spec Try.prog 55 [(AV.list 1 Ad (0 : Int) a_s .none), (.int .i64 a_v)] [] (.int .i64 x1) [])] hq ⟨(Gq a_s a_v x1 hx1), trivial⟩ ?_; refine Ar ?_; obtain rfl := OI h; exact ⟨.inl rfl, [], by kernel_rfl⟩
def Dw (a_x : Int) (x1 : List (Ax)) : (Int × Int) → Option (LR (Int × Int) Int) :=
  fun ((i2, i3) : (Int × Int)) => (bif (decide ((i3 : Int) < (x1.length : Int))) then (Option.bind (α := Int) (Cc (A4 i3 x1.length) ((C1 ((x1.getD (i3).toNat (default : Ax)).Body) a_x).bind fun x7 => (bif x7 then (some ((Bg (i2 + (1 : Int))))) else (some (i2))))) (fun x8 => ((some (.next (x8, (Bg (i3 + (1 : Int))))))))) else (some (.done i2)))
def Xb (x1 : List (Ax)) : List (Nat × Own) := [(9, .tok 2 38 x1.length)]
def Vu (x1 : List (Ax)) : AV := (.int .i64 (x1.length : Int))
def Vy (x1 : List (Ax)) : AV := (AV.list 2 Dr (default : Ax) x1 (.own 9))
def Fe (a_g : An) (a_x : Int) : Option Int :=
  ((Fc a_g).bind fun x1 => ((At (S := (Int × Int)) (X := Int) (Dw a_x x1) ((0 : Int), (0 : Int))).bind (fun x10 => ((some x10)))))
theorem Na (a_g : An) (a_x : Int) (r : Int) (h : Fe a_g a_x = some r) : Spec Try.prog 19 [(.agg (Bx a_g)), (.int .i64 a_x)] [] (.int .i64 r) [] := by
  refine Ap (fn := Try.f19) Try.func19 rfl rfl (by kernel_rfl) (fun Γ hn hΓ => ?_); have hq : RgQ Try.prog Γ 23 [] := ⟨hn, mix, hΓ⟩; unfold Fe at h; refine As ⟨[(1, (.int .i64 a_x)), (2, (.ptr 2 0))], [(2, .row 26 [(AV.list 1 eLI64 [] a_g.Succ .none), (AV.list 1 eLI64 [] a_g.Pred .none)])], []⟩ hq ?_; refine As ⟨[(1, (.int .i64 a_x)), (2, (.ptr 2 0)), (5, (.int .i64 (0 : Int)))], [(2, .row 26 [(AV.list 1 eLI64 [] a_g.Succ .none), (AV.list 1 eLI64 [] a_g.Pred .none)])], []⟩ hq ?_; refine Ae ?_; obtain ⟨x1, hx1, h⟩ := bind_some h; refine B7 [⟨[], [(20000, 9)], (AV.list 2 Dr (default : Ax) x1 (.own 20000)), [(20000, .tok 2 38 x1.length)], []⟩] [] ⟨[(1, (.int .i64 a_x)), (5, (.int .i64 (0 : Int))), (9, (Vy x1)), (10, (Vu x1)), (11, (.int .i64 (0 : Int)))], (Xb x1), []⟩ [(Spec Try.prog 12 [(.agg (Bx a_g))] [] (AV.list 2 Dr (default : Ax) x1 (.own 20000)) [(20000, .tok 2 38 x1.length)])] hq ⟨(Je a_g x1 hx1), trivial⟩ ?_; refine Ah ?_; refine Af (st' := (fun ((i2, i3) : (Int × Int)) => (⟨[(1, (.int .i64 a_x)), (5, (.int .i64 i2)), (9, (Vy x1)), (10, (Vu x1)), (11, (.int .i64 i3))], (Xb x1), []⟩ : St)) ((0 : Int), (0 : Int))) (Le.refl _ _) ?_; obtain ⟨x10, hx10, h⟩ := bind_some h; refine A8 (fun ((i2, i3) : (Int × Int)) => (⟨[(1, (.int .i64 a_x)), (5, (.int .i64 i2)), (9, (Vy x1)), (10, (Vu x1)), (11, (.int .i64 i3))], (Xb x1), []⟩ : St)) _ (fun (i4 : Int) (e : Exit) (st : St) => e = (.exit 0) ∧ Le Γ st (⟨[(5, (.int .i64 i4))], [], []⟩ : St)) ?_ hx10 ?_
  · rintro ⟨i2, i3⟩ y h; unfold Dw at h; refine As ⟨[(1, (.int .i64 a_x)), (5, (.int .i64 i2)), (9, (Vy x1)), (10, (Vu x1)), (11, (.int .i64 i3)), (12, (.bool (decide ((i3 : Int) < (x1.length : Int)))))], (Xb x1), []⟩ hq ?_; refine Ae ?_; refine Aj (decide ((i3 : Int) < (x1.length : Int))) (by kernel_rfl) (fun hb => ?_) (fun hb => ?_)
    · replace h := Ao hb h; clear hb; refine Ai ?_; refine Aa ?_; refine Ae ?_; obtain ⟨x8, hx8, h⟩ := bind_some h; refine Ex (fun (i5 : Int) (e : Exit) (st : St) => e = .normal ∧ Le Γ st (⟨[(1, (.int .i64 a_x)), (5, (.int .i64 i5)), (9, (Vy x1)), (10, (Vu x1)), (11, (.int .i64 i3))], (Xb x1), []⟩ : St)) hx8 ?_ ?_
      · clear h hx8; intro y h; refine Ah ?_; obtain ⟨hc6, h⟩ := Ab h; refine B7 [] [] ⟨[(1, (.int .i64 a_x)), (5, (.int .i64 i2)), (7, (.ptr 7 0)), (9, (Vy x1)), (10, (Vu x1)), (11, (.int .i64 i3))], [(7, .row 38 [(.int .i64 (x1.getD (i3).toNat (default : Ax)).Head), (AV.list 1 Ad (0 : Int) (x1.getD (i3).toNat (default : Ax)).Body .none)]), (9, .tok 2 38 x1.length)], []⟩ [(A4 i3 x1.length)] hq ⟨hc6, trivial⟩ ?_; obtain ⟨x7, hx7, h⟩ := bind_some h; refine B7 [⟨[], [], (.bool x7), [], []⟩] [] ⟨[(1, (.int .i64 a_x)), (5, (.int .i64 i2)), (9, (Vy x1)), (10, (Vu x1)), (11, (.int .i64 i3)), (18, (.bool x7))], (Xb x1), []⟩ [(Spec Try.prog 38 [(AV.list 1 Ad (0 : Int) (x1.getD (i3).toNat (default : Ax)).Body .none), (.int .i64 a_x)] [] (.bool x7) [])] hq ⟨(Io ((x1.getD (i3).toNat (default : Ax)).Body) a_x x7 hx7), trivial⟩ ?_; refine Aj x7 (by kernel_rfl) (fun hb => ?_) (fun hb => ?_)
        · replace h := Ao hb h; clear hb; refine Kd ⟨[(1, (.int .i64 a_x)), (5, (.int .i64 (Bg (i2 + (1 : Int))))), (9, (Vy x1)), (10, (Vu x1)), (11, (.int .i64 i3))], (Xb x1), []⟩ hq ?_; refine Ak ?_; obtain rfl := OI h; exact ⟨rfl, Le.refl _ _⟩
        · replace h := Au hb h; clear hb; refine Ai ?_; refine Ak ?_; obtain rfl := OI h; exact ⟨rfl, Fo [1, 5, 9, 10, 11] [9] hq⟩
      · clear hx8; rintro e st' ⟨rfl, hl9⟩; refine Aa ?_; refine Af hl9 ?_; refine Kd ⟨[(1, (.int .i64 a_x)), (5, (.int .i64 x8)), (9, (Vy x1)), (10, (Vu x1)), (11, (.int .i64 (Bg (i3 + (1 : Int)))))], (Xb x1), []⟩ hq ?_; obtain rfl := OI h; exact ⟨rfl, Le.refl _ _⟩
    · replace h := Au hb h; clear hb; refine A7 ?_; refine A2 ?_; obtain rfl := OI h; exact ⟨(by intro hh; cases hh), rfl, Fo [5] [] hq⟩
  · clear hx10; rintro e st' ⟨rfl, hl11⟩; refine Az ?_; refine Aa ?_; refine Af hl11 ?_; refine As ⟨[(4, (.int .i64 x10))], [], []⟩ hq ?_; refine Ar ?_; obtain rfl := OI h; exact ⟨.inl rfl, [], by kernel_rfl⟩
def Bh (a_s : List ((Int × Int))) (a_v : (Int × Int)) : Int → Option (LR Int (Unit ⊕ Int)) :=
  fun (i1 : Int) => (bif (decide ((i1 : Int) < (a_s.length : Int))) then (Cc (A4 i1 a_s.length) (bif (((a_v.1 : Int) == (a_s.getD (i1).toNat ((0 : Int), (0 : Int))).1) && (((a_v.2 : Int) == (a_s.getD (i1).toNat ((0 : Int), (0 : Int))).2) && true)) then (some (.done (.inr i1))) else (some (.next (Bg (i1 + (1 : Int))))))) else (some (.done (.inl ()))))
def Z3 (a_s : List ((Int × Int))) : AV := (.int .i64 (a_s.length : Int))
def Ym (a_s : List ((Int × Int))) : AV := (AV.list 2 Cr ((0 : Int), (0 : Int)) a_s .none)
def Wq (a_v : (Int × Int)) : List (Nat × Own) := [(3, .row 45 [(.int .i64 a_v.1), (.int .i64 a_v.2)])]
def Dt (a_s : List ((Int × Int))) (a_v : (Int × Int)) : Option Int :=
  ((At (S := Int) (X := (Unit ⊕ Int)) (Bh a_s a_v) (0 : Int)).bind (fun x3 => (match x3 with | (.inl _) => (some (-1 : Int)) | (.inr r5) => (some r5))))
theorem H6 (a_s : List ((Int × Int))) (a_v : (Int × Int)) (r : Int) (h : Dt a_s a_v = some r) : Spec Try.prog 58 [(AV.list 2 Cr ((0 : Int), (0 : Int)) a_s .none), (.agg (Cr a_v))] [] (.int .i64 r) [] := by
  refine Ap (fn := Try.f58) Try.func58 rfl rfl (by kernel_rfl) (fun Γ hn hΓ => ?_); have hq : RgQ Try.prog Γ 19 [] := ⟨hn, mix, hΓ⟩; unfold Dt at h; refine As ⟨[(0, (Ym a_s)), (3, (.ptr 3 0))], (Wq a_v), []⟩ hq ?_; refine Ae ?_; refine As ⟨[(0, (Ym a_s)), (3, (.ptr 3 0)), (7, (Z3 a_s)), (8, (.int .i64 (0 : Int)))], (Wq a_v), []⟩ hq ?_; refine Ah ?_; refine Af (st' := (fun (i1 : Int) => (⟨[(0, (Ym a_s)), (3, (.ptr 3 0)), (7, (Z3 a_s)), (8, (.int .i64 i1))], (Wq a_v), []⟩ : St)) (0 : Int)) (Le.refl _ _) ?_; obtain ⟨x3, hx3, h⟩ := bind_some h; refine A8 (fun (i1 : Int) => (⟨[(0, (Ym a_s)), (3, (.ptr 3 0)), (7, (Z3 a_s)), (8, (.int .i64 i1))], (Wq a_v), []⟩ : St)) _ (fun (x_ : (Unit ⊕ Int)) (e : Exit) (st : St) => match x_ with | (.inl _) => e = (.exit 0) ∧ Le Γ st (⟨[], [], []⟩ : St) | (.inr r_) => e = .ret ∧ Jv Try.prog Try.f58.results.toList [] (.int .i64 r_) [] e st) ?_ hx3 ?_
  · intro i1 y h; unfold Bh at h; refine As ⟨[(0, (Ym a_s)), (3, (.ptr 3 0)), (7, (Z3 a_s)), (8, (.int .i64 i1)), (9, (.bool (decide ((i1 : Int) < (a_s.length : Int)))))], (Wq a_v), []⟩ hq ?_; refine Ae ?_; refine Aj (decide ((i1 : Int) < (a_s.length : Int))) (by kernel_rfl) (fun hb => ?_) (fun hb => ?_)
    · replace h := Ao hb h; clear hb; refine Ai ?_; refine Aa ?_; refine Ae ?_; refine Ah ?_; refine As ⟨[(0, (Ym a_s)), (3, (.ptr 3 0)), (5, (.int .i64 i1)), (7, (Z3 a_s)), (8, (.int .i64 i1))], (Wq a_v), []⟩ hq ?_; obtain ⟨hc2, h⟩ := Ab h; refine B7 [] [] ⟨[(0, (Ym a_s)), (3, (.ptr 3 0)), (5, (.int .i64 i1)), (7, (Z3 a_s)), (8, (.int .i64 i1)), (16, (.bool (((a_v.1 : Int) == (a_s.getD (i1).toNat ((0 : Int), (0 : Int))).1) && (((a_v.2 : Int) == (a_s.getD (i1).toNat ((0 : Int), (0 : Int))).2) && true))))], (Wq a_v), []⟩ [(A4 i1 a_s.length)] hq ⟨hc2, trivial⟩ ?_; refine Aj (((a_v.1 : Int) == (a_s.getD (i1).toNat ((0 : Int), (0 : Int))).1) && (((a_v.2 : Int) == (a_s.getD (i1).toNat ((0 : Int), (0 : Int))).2) && true)) (by kernel_rfl) (fun hb => ?_) (fun hb => ?_)
      · replace h := Ao hb h; clear hb; refine As ⟨[(4, (.int .i64 i1))], [], []⟩ hq ?_; refine Ar ?_; refine Bc ?_; refine A0 ?_; obtain rfl := OI h; exact ⟨(by intro hh; cases hh), rfl, ⟨.inl rfl, [], by kernel_rfl⟩⟩
      · replace h := Au hb h; clear hb; refine Ai ?_; refine Ak ?_; refine Aa ?_; refine Kd ⟨[(0, (Ym a_s)), (3, (.ptr 3 0)), (7, (Z3 a_s)), (8, (.int .i64 (Bg (i1 + (1 : Int)))))], (Wq a_v), []⟩ hq ?_; obtain rfl := OI h; exact ⟨rfl, Le.refl _ _⟩
    · replace h := Au hb h; clear hb; refine A7 ?_; refine A2 ?_; obtain rfl := OI h; exact ⟨(by intro hh; cases hh), rfl, Fo [] [] hq⟩
  · clear hx3; rcases x3 with _ | r5
    · rintro e st' ⟨rfl, hl4⟩; refine Az ?_; refine Aa ?_; refine Af hl4 ?_; refine As ⟨[(4, (.int .i64 (-1 : Int)))], [], []⟩ hq ?_; refine Ar ?_; obtain rfl := OI h; exact ⟨.inl rfl, [], by kernel_rfl⟩
    · rintro e st' ⟨rfl, hk⟩; refine Bc ?_; refine A0 ?_; obtain rfl := OI h; exact hk
def Ck (a_s : List ((Int × Int))) (a_v : (Int × Int)) : Option Bool :=
  ((Dt a_s a_v).bind fun x1 => (some (decide (((0 : Int) : Int) ≤ x1))))
theorem Hf (a_s : List ((Int × Int))) (a_v : (Int × Int)) (r : Bool) (h : Ck a_s a_v = some r) : Spec Try.prog 49 [(AV.list 2 Cr ((0 : Int), (0 : Int)) a_s .none), (.agg (Cr a_v))] [] (.bool r) [] := by
  refine Ap (fn := Try.f49) Try.func49 rfl rfl (by kernel_rfl) (fun Γ hn hΓ => ?_); have hq : RgQ Try.prog Γ 9 [] := ⟨hn, mix, hΓ⟩; unfold Ck at h; refine As ⟨[(0, (AV.list 2 Cr ((0 : Int), (0 : Int)) a_s .none)), (3, (.ptr 3 0))], [(3, .row 45 [(.int .i64 a_v.1), (.int .i64 a_v.2)])], []⟩ hq ?_; obtain ⟨x1, hx1, h⟩ := bind_some h; refine B7 [⟨[], [], (.int .i64 x1), [], []⟩] [] ⟨[(4, (.bool (decide (((0 : Int) : Int) ≤ x1))))], [], []⟩ [(Spec Try.prog 58 [(AV.list 2 Cr ((0 : Int), (0 : Int)) a_s .none), (.agg (Cr a_v))] [] (.int .i64 x1) [])] hq ⟨(H6 a_s a_v x1 hx1), trivial⟩ ?_; refine Ar ?_; obtain rfl := OI h; exact ⟨.inl rfl, [], by kernel_rfl⟩
def Ci (a_succ : List (List (Int))) (a_ways : List ((Int × Int))) (i2 : Int) : (Int × List (List (Int))) → Option (LR (Int × List (List (Int))) (List (List (Int)))) :=
  fun ((i6, l7) : (Int × List (List (Int)))) => (bif (decide ((i6 : Int) < ((a_succ.getD (i2).toNat []).length : Int))) then (Option.bind (α := List (List (Int))) (Cc (A4 i6 (a_succ.getD (i2).toNat []).length) ((Ck a_ways (i2, ((a_succ.getD (i2).toNat []).getD (i6).toNat (0 : Int)))).bind fun x11 => (bif (!x11) then (Cc (A4 i2 l7.length) (Cc (A4 i2 l7.length) (Cc ((l7.getD (i2).toNat []).length + ([((a_succ.getD (i2).toNat []).getD (i6).toNat (0 : Int))] : List (Int)).length ≤ room) (Cc (A4 i2 l7.length) (some ((l7.set (i2).toNat ((l7.getD (i2).toNat []) ++ ([((a_succ.getD (i2).toNat []).getD (i6).toNat (0 : Int))] : List (Int)))))))))) else (some (l7))))) (fun x16 => ((some (.next ((Bg (i6 + (1 : Int))), x16)))))) else (some (.done l7)))
def C9 (a_succ : List (List (Int))) (a_ways : List ((Int × Int))) : (Int × List (List (Int))) → Option (LR (Int × List (List (Int))) (List (List (Int)))) :=
  fun ((i2, l3) : (Int × List (List (Int)))) => (bif (decide ((i2 : Int) < (a_succ.length : Int))) then (Cc (A4 i2 a_succ.length) ((At (S := (Int × List (List (Int)))) (X := List (List (Int))) (Ci a_succ a_ways i2) ((0 : Int), l3)).bind (fun x18 => ((some (.next ((Bg (i2 + (1 : Int))), x18))))))) else (some (.done l3)))
def Jn (l7 : List (List (Int))) (i2 : Int) := (l7.getD (i2).toNat [])
def Jl (a_succ : List (List (Int))) : AV := (AV.list 1 eLI64 [] a_succ .none)
def M0 (a_succ : List (List (Int))) : AV := (.int .i64 (a_succ.length : Int))
def Ix (a_ways : List ((Int × Int))) : AV := (AV.list 2 Cr ((0 : Int), (0 : Int)) a_ways .none)
def U7 (a_succ : List (List (Int))) (i2 : Int) : AV := (.int .i64 ((a_succ.getD (i2).toNat []).length : Int))
def To (a_succ : List (List (Int))) (i2 : Int) : AV := (AV.list 1 Ad (0 : Int) (a_succ.getD (i2).toNat []) .none)
def Qk (a_succ : List (List (Int))) := (List.replicate ((a_succ.length : Int)).toNat ([] : List (Int)))
def Q243 (a_succ : List (List (Int))) (i2 : Int) (i6 : Int) : AV := (.int .i64 ((a_succ.getD (i2).toNat []).getD (i6).toNat (0 : Int)))
def Q241 (l3 : List (List (Int))) : List (Nat × Own) := [(12, .arr 1 36 l3.length (Cv 1 Ad (0 : Int) l3 (Tag.fam 70012)))]
def Q242 (l7 : List (List (Int))) : List (Nat × Own) := [(12, .arr 1 36 l7.length (Cv 1 Ad (0 : Int) l7 (Tag.fam 70012)))]
def La (a_succ : List (List (Int))) (i2 : Int) (i6 : Int) := ([((a_succ.getD (i2).toNat []).getD (i6).toNat (0 : Int))] : List (Int))
def Q244 (a_ways : List ((Int × Int))) (l7 : List (List (Int))) (i2 : Int) (a_succ : List (List (Int))) (i6 : Int) : List (Nat × AV) := [(1, (Ix a_ways)), (5, (.vsl 12 l7.length)), (6, (.int .i64 i2)), (13, (Jl a_succ)), (14, (M0 a_succ)), (15, (.int .i64 i2)), (20, (To a_succ i2)), (21, (U7 a_succ i2)), (22, (.int .i64 i6))]
def F0 (a_succ : List (List (Int))) (a_ways : List ((Int × Int))) : Option (List (List (Int))) :=
  (Cc (0 ≤ (a_succ.length : Int) ∧ (a_succ.length : Int) ≤ (a_succ.length : Int) ∧ (a_succ.length : Int) ≤ (room : Int)) ((At (S := (Int × List (List (Int)))) (X := List (List (Int))) (C9 a_succ a_ways) ((0 : Int), (List.replicate ((a_succ.length : Int)).toNat ([] : List (Int))))).bind (fun x20 => ((some x20)))))
theorem Qe (a_succ : List (List (Int))) (a_ways : List ((Int × Int))) (r : List (List (Int))) (h : F0 a_succ a_ways = some r) : Spec Try.prog 33 [(AV.list 1 eLI64 [] a_succ .none), (AV.list 2 Cr ((0 : Int), (0 : Int)) a_ways .none)] [] (AV.list 1 eLI64 [] r (.own 20000)) [(20000, .tok 1 36 r.length)] := by
  refine Ap (fn := Try.f33) Try.func33 rfl rfl (by kernel_rfl) (fun Γ hn hΓ => ?_); have hq : RgQ Try.prog Γ 45 [] := ⟨hn, mix, hΓ⟩; unfold F0 at h; refine B7 [] [(4, (AV.list 1 eLI64 [] ([] : List (List (Int))) .exact))] ⟨[(0, (Jl a_succ)), (1, (Ix a_ways))], [], []⟩ [(AVle (.slice 0 0 (fun _ => []) .exact) (AV.list 1 eLI64 [] ([] : List (List (Int))) .exact))] hq ⟨Ea, trivial⟩ ?_; obtain ⟨hc1, h⟩ := Ab h; refine B7 [] [] ⟨[(0, (Jl a_succ)), (1, (Ix a_ways)), (5, (.vsl 12 ((a_succ.length : Int)).toNat))], [(12, .arr 1 36 (((a_succ.length : Int)).toNat) (fun i_ => AV.eraseAll (fun n_ => Cb n_ [12]) ((fun _ => [(.slice 0 0 (fun _ => []) .exact)]) i_)))], []⟩ [(0 ≤ (a_succ.length : Int) ∧ (a_succ.length : Int) ≤ (a_succ.length : Int) ∧ (a_succ.length : Int) ≤ (room : Int))] hq ⟨hc1, trivial⟩ ?_; refine Af (Le.trans (Cg (st' := ⟨[(0, (Jl a_succ)), (1, (Ix a_ways)), (5, (.vsl 12 ((a_succ.length : Int)).toNat))], [(12, .arr 1 36 (((a_succ.length : Int)).toNat) (Cv 1 Ad (0 : Int) (Qk a_succ) (fun _ => .exact)))], []⟩) (TmpsLe.refl _) (.arr W9 .nil)) (Le.trans (Le.trans (Tc (r := 12) (b := 70012) Ad (0 : Int) (Qk a_succ) 3 rfl rfl (List.length_replicate ..).symm (fun h_ => absurd h_ (by decide))) (B5 (st' := ⟨[(0, (Jl a_succ)), (1, (Ix a_ways)), (5, (.vsl 12 ((a_succ.length : Int)).toNat))], [(12, .arr 1 36 (((a_succ.length : Int)).toNat) (Cv 1 Ad (0 : Int) (Qk a_succ) (Tag.fam 70012)))], [(70012, ⟨1, 3, Cz (Qk a_succ)⟩)]⟩) (by kernel_rfl))) (B5 (congrArg (fun k_ : Nat => (⟨[(0, (Jl a_succ)), (1, (Ix a_ways)), (5, (.vsl 12 k_))], [(12, .arr 1 36 k_ (Cv 1 Ad (0 : Int) (Qk a_succ) (Tag.fam 70012)))], [(70012, ⟨1, 3, Cz (Qk a_succ)⟩)]⟩ : St)) (show ((a_succ.length : Int)).toNat = (Qk a_succ).length from (List.length_replicate ..).symm))))) ?_; refine Ae ?_; refine As ⟨[(1, (Ix a_ways)), (5, (.vsl 12 (Qk a_succ).length)), (13, (Jl a_succ)), (14, (M0 a_succ)), (15, (.int .i64 (0 : Int)))], [(12, .arr 1 36 ((Qk a_succ).length) (Cv 1 Ad (0 : Int) (Qk a_succ) (Tag.fam 70012)))], [(70012, ⟨1, 3, Cz (Qk a_succ)⟩)]⟩ hq ?_; refine Ah ?_; refine Af (st' := (fun ((i2, l3) : (Int × List (List (Int)))) => (⟨[(1, (Ix a_ways)), (5, (.vsl 12 l3.length)), (13, (Jl a_succ)), (14, (M0 a_succ)), (15, (.int .i64 i2))], (Q241 l3), [(70012, ⟨1, 3, Cz l3⟩)]⟩ : St)) ((0 : Int), (Qk a_succ))) (Le.refl _ _) ?_; obtain ⟨x20, hx20, h⟩ := bind_some h; refine A8 (fun ((i2, l3) : (Int × List (List (Int)))) => (⟨[(1, (Ix a_ways)), (5, (.vsl 12 l3.length)), (13, (Jl a_succ)), (14, (M0 a_succ)), (15, (.int .i64 i2))], (Q241 l3), [(70012, ⟨1, 3, Cz l3⟩)]⟩ : St)) _ (fun (l4 : List (List (Int))) (e : Exit) (st : St) => e = (.exit 0) ∧ Le Γ st (⟨[(5, (.vsl 12 l4.length))], [(12, .arr 1 36 l4.length (Cv 1 Ad (0 : Int) l4 (Tag.fam 70012)))], [(70012, ⟨1, 3, Cz l4⟩)]⟩ : St)) ?_ hx20 ?_
  · rintro ⟨i2, l3⟩ y h; unfold C9 at h; refine As ⟨[(1, (Ix a_ways)), (5, (.vsl 12 l3.length)), (13, (Jl a_succ)), (14, (M0 a_succ)), (15, (.int .i64 i2)), (16, (.bool (decide ((i2 : Int) < (a_succ.length : Int)))))], (Q241 l3), [(70012, ⟨1, 3, Cz l3⟩)]⟩ hq ?_; refine Ae ?_; refine Aj (decide ((i2 : Int) < (a_succ.length : Int))) (by kernel_rfl) (fun hb => ?_) (fun hb => ?_)
    · replace h := Ao hb h; clear hb; refine Ai ?_; refine Aa ?_; refine Ae ?_; refine Ah ?_; obtain ⟨hc5, h⟩ := Ab h; refine B7 [] [] ⟨[(1, (Ix a_ways)), (5, (.vsl 12 l3.length)), (6, (.int .i64 i2)), (7, (To a_succ i2)), (13, (Jl a_succ)), (14, (M0 a_succ)), (15, (.int .i64 i2))], (Q241 l3), [(70012, ⟨1, 3, Cz l3⟩)]⟩ [(A4 i2 a_succ.length)] hq ⟨hc5, trivial⟩ ?_; refine As ⟨[(1, (Ix a_ways)), (5, (.vsl 12 l3.length)), (6, (.int .i64 i2)), (13, (Jl a_succ)), (14, (M0 a_succ)), (15, (.int .i64 i2)), (20, (To a_succ i2)), (21, (U7 a_succ i2)), (22, (.int .i64 (0 : Int)))], (Q241 l3), [(70012, ⟨1, 3, Cz l3⟩)]⟩ hq ?_; refine Ah ?_; refine Af (st' := (fun ((i6, l7) : (Int × List (List (Int)))) => (⟨(Q244 a_ways l7 i2 a_succ i6), (Q242 l7), [(70012, ⟨1, 3, Cz l7⟩)]⟩ : St)) ((0 : Int), l3)) (Le.refl _ _) ?_; obtain ⟨x18, hx18, h⟩ := bind_some h; refine A8 (fun ((i6, l7) : (Int × List (List (Int)))) => (⟨(Q244 a_ways l7 i2 a_succ i6), (Q242 l7), [(70012, ⟨1, 3, Cz l7⟩)]⟩ : St)) _ (fun (l8 : List (List (Int))) (e : Exit) (st : St) => e = (.exit 2) ∧ Le Γ st (⟨[(1, (Ix a_ways)), (5, (.vsl 12 l8.length)), (13, (Jl a_succ)), (14, (M0 a_succ)), (15, (.int .i64 i2))], [(12, .arr 1 36 l8.length (Cv 1 Ad (0 : Int) l8 (Tag.fam 70012)))], [(70012, ⟨1, 3, Cz l8⟩)]⟩ : St)) ?_ hx18 ?_
      · rintro ⟨i6, l7⟩ y h; unfold Ci at h; refine As ⟨[(1, (Ix a_ways)), (5, (.vsl 12 l7.length)), (6, (.int .i64 i2)), (13, (Jl a_succ)), (14, (M0 a_succ)), (15, (.int .i64 i2)), (20, (To a_succ i2)), (21, (U7 a_succ i2)), (22, (.int .i64 i6)), (23, (.bool (decide ((i6 : Int) < ((a_succ.getD (i2).toNat []).length : Int)))))], (Q242 l7), [(70012, ⟨1, 3, Cz l7⟩)]⟩ hq ?_; refine Ae ?_; refine Aj (decide ((i6 : Int) < ((a_succ.getD (i2).toNat []).length : Int))) (by kernel_rfl) (fun hb => ?_) (fun hb => ?_)
        · replace h := Ao hb h; clear hb; refine Ai ?_; refine Aa ?_; refine Ae ?_; obtain ⟨x16, hx16, h⟩ := bind_some h; refine Ex (fun (l9 : List (List (Int))) (e : Exit) (st : St) => e = .normal ∧ Le Γ st (⟨[(1, (Ix a_ways)), (5, (.vsl 12 l9.length)), (6, (.int .i64 i2)), (13, (Jl a_succ)), (14, (M0 a_succ)), (15, (.int .i64 i2)), (20, (To a_succ i2)), (21, (U7 a_succ i2)), (22, (.int .i64 i6))], [(12, .arr 1 36 l9.length (Cv 1 Ad (0 : Int) l9 (Tag.fam 70012)))], [(70012, ⟨1, 3, Cz l9⟩)]⟩ : St)) hx16 ?_ ?_
          · clear h hx16; intro y h; refine Ah ?_; obtain ⟨hc10, h⟩ := Ab h; refine B7 [] [] ⟨[(1, (Ix a_ways)), (5, (.vsl 12 l7.length)), (6, (.int .i64 i2)), (9, (Q243 a_succ i2 i6)), (13, (Jl a_succ)), (14, (M0 a_succ)), (15, (.int .i64 i2)), (20, (To a_succ i2)), (21, (U7 a_succ i2)), (22, (.int .i64 i6))], (Q242 l7), [(70012, ⟨1, 3, Cz l7⟩)]⟩ [(A4 i6 (a_succ.getD (i2).toNat []).length)] hq ⟨hc10, trivial⟩ ?_; obtain ⟨x11, hx11, h⟩ := bind_some h; refine B7 [⟨[], [], (.bool x11), [], []⟩] [] ⟨[(1, (Ix a_ways)), (5, (.vsl 12 l7.length)), (6, (.int .i64 i2)), (9, (Q243 a_succ i2 i6)), (13, (Jl a_succ)), (14, (M0 a_succ)), (15, (.int .i64 i2)), (20, (To a_succ i2)), (21, (U7 a_succ i2)), (22, (.int .i64 i6)), (31, (.bool (!x11)))], (Q242 l7), [(70012, ⟨1, 3, Cz l7⟩)]⟩ [(Spec Try.prog 49 [(Ix a_ways), (.agg [(.int .i64 i2), (Q243 a_succ i2 i6)])] [] (.bool x11) [])] hq ⟨(Hf a_ways (i2, ((a_succ.getD (i2).toNat []).getD (i6).toNat (0 : Int))) x11 hx11), trivial⟩ ?_; refine Aj (!x11) (by kernel_rfl) (fun hb => ?_) (fun hb => ?_)
            · replace h := Ao hb h; clear hb; obtain ⟨hc12, h⟩ := Ab h; obtain ⟨hc13, h⟩ := Ab h; obtain ⟨hc14, h⟩ := Ab h; obtain ⟨hc15, h⟩ := Ab h; refine Af (Le.trans (Vt (r := 12) (b := 70012) (k := 60012) Ad (0 : Int) l7 (i2).toNat 3 rfl rfl rfl rfl (D7 hc12) (by kernel_rfl) (.here .nil)) (B5 (st' := ⟨[(1, (Ix a_ways)), (5, (.vsl 12 l7.length)), (6, (.int .i64 i2)), (9, (Q243 a_succ i2 i6)), (13, (Jl a_succ)), (14, (M0 a_succ)), (15, (.int .i64 i2)), (20, (To a_succ i2)), (21, (U7 a_succ i2)), (22, (.int .i64 i6)), (31, (.bool (!x11)))], [(12, .arr 1 36 l7.length (Cv 1 Ad (0 : Int) l7 (Dk 70012 (i2).toNat 60012))), (60012, .tok 1 3 ((Jn l7 i2).length))], [(70012, ⟨1, 3, Js l7 (i2).toNat⟩)]⟩) (by kernel_rfl))) ?_; refine rg [] [(37, (AV.list 1 Ad (0 : Int) (Jn l7 i2) (.own 60012))), (39, (AV.list 1 Ad (0 : Int) (La a_succ i2 i6) .exact)), (40, (AV.list 1 Ad (0 : Int) ((Jn l7 i2) ++ (La a_succ i2 i6)) (.own 60012)))] ⟨(Q244 a_ways l7 i2 a_succ i6), [(12, .arr 1 36 l7.length (fun i_ => AV.eraseAll (fun n_ => Cb n_ [12, 60012, 70012]) ((Ff (Cv 1 Ad (0 : Int) l7 (Dk 70012 (i2).toNat 60012)) (i2).toNat 0 [(AV.list 1 Ad (0 : Int) ((Jn l7 i2) ++ (La a_succ i2 i6)) (.own 60012))]) i_))), (60012, .tok 1 3 (((Jn l7 i2) ++ (La a_succ i2 i6)).length))], [(70012, ⟨1, 3, Js l7 (i2).toNat⟩)]⟩ [(A4 i2 l7.length), (l7.length = l7.length), (AVle (((Cv 1 Ad (0 : Int) l7 (Dk 70012 (i2).toNat 60012)) (i2).toNat).getD 0 .any) (AV.list 1 Ad (0 : Int) (Jn l7 i2) (.own 60012))), (AVle (.slice 1 1 (fun i => ([[(Q243 a_succ i2 i6)]] : List (List AV)).getD i []) .exact) (AV.list 1 Ad (0 : Int) (La a_succ i2 i6) .exact)), ((Jn l7 i2).length = (Jn l7 i2).length), ((Jn l7 i2).length + (La a_succ i2 i6).length ≤ room), (AVle (.slice 1 ((Jn l7 i2).length + (La a_succ i2 i6).length) (E8 (Jn l7 i2).length (fun i => Ad ((Jn l7 i2).getD i (0 : Int))) (fun i => Ad ((La a_succ i2 i6).getD i (0 : Int)))) (.own 60012)) (AV.list 1 Ad (0 : Int) ((Jn l7 i2) ++ (La a_succ i2 i6)) (.own 60012))), ((Jn l7 i2).length + (La a_succ i2 i6).length = ((Jn l7 i2) ++ (La a_succ i2 i6)).length), (A4 i2 l7.length), (l7.length = l7.length)] hq ⟨hc13, rfl, O7, (Ft rfl (fun i hi => Fa (e := Ad) (d := (0 : Int)) (La a_succ i2 i6) i hi)), rfl, hc14, Nx, (Eg _ _), hc15, rfl, trivial⟩ ?_; refine Ak ?_; obtain rfl := OI h; exact ⟨rfl, Le.trans (Le.trans (Le.trans (le_put (r := 12) (b := 70012) (k := 60012) Ad (0 : Int) l7 (i2).toNat ((Jn l7 i2) ++ (La a_succ i2 i6)) 3 rfl (Sb (D7 hc12) rfl rfl) rfl rfl rfl rfl (D7 hc12) (by kernel_rfl) (.here (.tok .nil)) (by rw [hΓ]; rfl)) (B5 (st' := ⟨(Q244 a_ways l7 i2 a_succ i6), [(12, .arr 1 36 l7.length (Cv 1 Ad (0 : Int) (l7.set (i2).toNat ((Jn l7 i2) ++ (La a_succ i2 i6))) (Tag.fam 70012)))], [(70012, ⟨1, 3, Cz (l7.set (i2).toNat ((Jn l7 i2) ++ (La a_succ i2 i6)))⟩)]⟩) (by kernel_rfl))) (B5 (congrArg (fun k_ : Nat => (⟨[(1, (Ix a_ways)), (5, (.vsl 12 k_)), (6, (.int .i64 i2)), (13, (Jl a_succ)), (14, (M0 a_succ)), (15, (.int .i64 i2)), (20, (To a_succ i2)), (21, (U7 a_succ i2)), (22, (.int .i64 i6))], [(12, .arr 1 36 k_ (Cv 1 Ad (0 : Int) (l7.set (i2).toNat ((Jn l7 i2) ++ (La a_succ i2 i6))) (Tag.fam 70012)))], [(70012, ⟨1, 3, Cz (l7.set (i2).toNat ((Jn l7 i2) ++ (La a_succ i2 i6)))⟩)]⟩ : St)) (show l7.length = (l7.set (i2).toNat ((Jn l7 i2) ++ (La a_succ i2 i6))).length from (List.length_set ..).symm)))) (Le.refl _ _)⟩
            · replace h := Au hb h; clear hb; refine Ai ?_; refine Ak ?_; obtain rfl := OI h; exact ⟨rfl, Fo [1, 5, 6, 13, 14, 15, 20, 21, 22] [12, 70012] hq⟩
          · clear hx16; rintro e st' ⟨rfl, hl17⟩; refine Aa ?_; refine Af hl17 ?_; refine Kd ⟨[(1, (Ix a_ways)), (5, (.vsl 12 x16.length)), (6, (.int .i64 i2)), (13, (Jl a_succ)), (14, (M0 a_succ)), (15, (.int .i64 i2)), (20, (To a_succ i2)), (21, (U7 a_succ i2)), (22, (.int .i64 (Bg (i6 + (1 : Int)))))], [(12, .arr 1 36 x16.length (Cv 1 Ad (0 : Int) x16 (Tag.fam 70012)))], [(70012, ⟨1, 3, Cz x16⟩)]⟩ hq ?_; obtain rfl := OI h; exact ⟨rfl, Le.refl _ _⟩
        · replace h := Au hb h; clear hb; refine A7 ?_; refine A2 ?_; obtain rfl := OI h; exact ⟨(by intro hh; cases hh), rfl, Fo [1, 5, 13, 14, 15] [12, 70012] hq⟩
      · clear hx18; rintro e st' ⟨rfl, hl19⟩; refine Az ?_; refine Ak ?_; refine Aa ?_; refine Af hl19 ?_; refine Kd ⟨[(1, (Ix a_ways)), (5, (.vsl 12 x18.length)), (13, (Jl a_succ)), (14, (M0 a_succ)), (15, (.int .i64 (Bg (i2 + (1 : Int)))))], [(12, .arr 1 36 x18.length (Cv 1 Ad (0 : Int) x18 (Tag.fam 70012)))], [(70012, ⟨1, 3, Cz x18⟩)]⟩ hq ?_; obtain rfl := OI h; exact ⟨rfl, Le.refl _ _⟩
    · replace h := Au hb h; clear hb; refine A7 ?_; refine A2 ?_; obtain rfl := OI h; exact ⟨(by intro hh; cases hh), rfl, Fo [5] [12, 70012] hq⟩
  · clear hx20; rintro e st' ⟨rfl, hl21⟩; refine Az ?_; refine Aa ?_; refine Af hl21 ?_; refine As ⟨[(4, (.vsl 12 x20.length))], [(12, .arr 1 36 x20.length (Cv 1 Ad (0 : Int) x20 (Tag.fam 70012)))], [(70012, ⟨1, 3, Cz x20⟩)]⟩ hq ?_; refine Af (Le.trans (F3 (nm := 12) (sz := 1) (n := x20.length) (e := 36) (f := (Cv 1 Ad (0 : Int) x20 (Tag.fam 70012))) (g := (fun i => eLI64 (x20.getD i []))) rfl ⟨rfl, trivial⟩ (fun _ _ => rfl) (by rw [hΓ]; rfl)) (Fo (st' := ⟨[(4, (AV.list 1 eLI64 [] x20 (.own 12)))], [(12, .tok 1 36 x20.length)], []⟩) [4] [12] hq)) ?_; refine Ar ?_; obtain rfl := OI h; exact ⟨.inl rfl, [(12, 20000)], by kernel_rfl⟩
def E6 (a_to : Int) (a_p1 : List (Bool)) : Option (Bool × List (Bool)) :=
  (Cc (A4 a_to 64) (some ((a_p1.getD (a_to).toNat false), a_p1)))
theorem Oe (a_to : Int) (a_p1 : List (Bool)) (r : (Bool × List (Bool))) (h : E6 a_to a_p1 = some r) : Spec Try.prog 35 [(.int .i64 a_to), (.vpt 34001 64 0 0)] [(34001, .arr 1 53 64 (fun i => eB (a_p1.getD i false)))] (.bool r.1) [(34001, .arr 1 53 64 (fun i => eB (r.2.getD i false)))] := by
  refine Ap (fn := Try.f35) Try.func35 rfl rfl (by kernel_rfl) (fun Γ hn hΓ => ?_); have hq : RgQ Try.prog Γ 7 [(34001, .arr 1 53 64 (fun i => eB (a_p1.getD i false)))] := ⟨hn, mix, hΓ⟩; unfold E6 at h; refine As ⟨[(0, (.int .i64 a_to)), (1, (.vpt 34001 64 0 0))], [(34001, .arr 1 53 64 (fun i => eB (a_p1.getD i false)))], []⟩ hq ?_; obtain ⟨hc1, h⟩ := Ab h; refine B7 [] [] ⟨[(3, (.bool (a_p1.getD (a_to).toNat false)))], [(34001, .arr 1 53 64 (fun i => eB (a_p1.getD i false)))], []⟩ [(A4 a_to 64), (64 = 64)] hq ⟨hc1, rfl, trivial⟩ ?_; refine Ar ?_; obtain rfl := OI h; exact ⟨.inl rfl, [(34001, 34001)], by kernel_rfl⟩
def Bi (a_s : List (Int)) : (Int × List (Bool)) → Option (LR (Int × List (Bool)) (List (Bool) ⊕ (Int × List (Bool)))) :=
  fun ((i1, l2) : (Int × List (Bool))) => (bif (decide ((i1 : Int) < (a_s.length : Int))) then (Cc (A4 i1 a_s.length) ((E6 (a_s.getD (i1).toNat (0 : Int)) l2).bind fun x5 => (bif x5.1 then (some (.done (.inr (i1, x5.2)))) else (some (.next ((Bg (i1 + (1 : Int))), x5.2)))))) else (some (.done (.inl l2))))
def Zi : AV := (.clo 35 [] [(.vpt 38000 64 0 0)])
def Q246 (a_s : List (Int)) : AV := (AV.list 1 Ad (0 : Int) a_s .none)
def Q245 (a_s : List (Int)) (i1 : Int) (l2 : List (Bool)) := (⟨[(0, (Q246 a_s)), (1, Zi), (7, (.int .i64 (a_s.length : Int))), (8, (.int .i64 i1))], [(38000, .arr 1 53 64 (fun i => eB (l2.getD i false)))], []⟩ : St)
def Dm (a_s : List (Int)) (a_fc0 : List (Bool)) : Option (Int × List (Bool)) :=
  ((At (S := (Int × List (Bool))) (X := (List (Bool) ⊕ (Int × List (Bool)))) (Bi a_s) ((0 : Int), a_fc0)).bind (fun x6 => (match x6 with | (.inl l3) => (some ((-1 : Int), l3)) | (.inr r8) => (some r8))))
theorem Ib (a_s : List (Int)) (a_fc0 : List (Bool)) (r : (Int × List (Bool))) (h : Dm a_s a_fc0 = some r) : Spec Try.prog 50 [(AV.list 1 Ad (0 : Int) a_s .none), (.clo 35 [] [(.vpt 38000 64 0 0)])] [(38000, .arr 1 53 64 (fun i => eB (a_fc0.getD i false)))] (.int .i64 r.1) [(38000, .arr 1 53 64 (fun i => eB (r.2.getD i false)))] := by
  refine Ap (fn := Try.f50) Try.func50 rfl rfl (by kernel_rfl) (fun Γ hn hΓ => ?_); have hq : RgQ Try.prog Γ 19 [(38000, .arr 1 53 64 (fun i => eB (a_fc0.getD i false)))] := ⟨hn, mix, hΓ⟩; unfold Dm at h; refine As ⟨[(0, (Q246 a_s)), (1, Zi)], [(38000, .arr 1 53 64 (fun i => eB (a_fc0.getD i false)))], []⟩ hq ?_; refine Ae ?_; refine As ⟨[(0, (Q246 a_s)), (1, Zi), (7, (.int .i64 (a_s.length : Int))), (8, (.int .i64 (0 : Int)))], [(38000, .arr 1 53 64 (fun i => eB (a_fc0.getD i false)))], []⟩ hq ?_; refine Ah ?_; refine Af (st' := (fun ((i1, l2) : (Int × List (Bool))) => (Q245 a_s i1 l2)) ((0 : Int), a_fc0)) (Le.refl _ _) ?_; obtain ⟨x6, hx6, h⟩ := bind_some h; refine A8 (fun ((i1, l2) : (Int × List (Bool))) => (Q245 a_s i1 l2)) _ (fun (x_ : (List (Bool) ⊕ (Int × List (Bool)))) (e : Exit) (st : St) => match x_ with | (.inl l3) => e = (.exit 0) ∧ Le Γ st (⟨[], [(38000, .arr 1 53 64 (fun i => eB (l3.getD i false)))], []⟩ : St) | (.inr r_) => e = .ret ∧ Jv Try.prog Try.f50.results.toList [(38000, .arr 1 53 64 (fun i => eB (a_fc0.getD i false)))] (.int .i64 r_.1) [(38000, .arr 1 53 64 (fun i => eB (r_.2.getD i false)))] e st) ?_ hx6 ?_
  · rintro ⟨i1, l2⟩ y h; unfold Bi at h; refine As ⟨[(0, (Q246 a_s)), (1, Zi), (7, (.int .i64 (a_s.length : Int))), (8, (.int .i64 i1)), (9, (.bool (decide ((i1 : Int) < (a_s.length : Int)))))], [(38000, .arr 1 53 64 (fun i => eB (l2.getD i false)))], []⟩ hq ?_; refine Ae ?_; refine Aj (decide ((i1 : Int) < (a_s.length : Int))) (by kernel_rfl) (fun hb => ?_) (fun hb => ?_)
    · replace h := Ao hb h; clear hb; refine Ai ?_; refine Aa ?_; refine Ae ?_; refine Ah ?_; refine As ⟨[(0, (Q246 a_s)), (1, Zi), (5, (.int .i64 i1)), (7, (.int .i64 (a_s.length : Int))), (8, (.int .i64 i1))], [(38000, .arr 1 53 64 (fun i => eB (l2.getD i false)))], []⟩ hq ?_; obtain ⟨hc4, h⟩ := Ab h; obtain ⟨x5, hx5, h⟩ := bind_some h; refine B7 [⟨[(38000, 34001)], [], (.bool x5.1), [(34001, .arr 1 53 64 (fun i => eB (x5.2.getD i false)))], []⟩] [] ⟨[(0, (Q246 a_s)), (1, Zi), (5, (.int .i64 i1)), (7, (.int .i64 (a_s.length : Int))), (8, (.int .i64 i1)), (16, (.bool x5.1))], [(38000, .arr 1 53 64 (fun i => eB (x5.2.getD i false)))], []⟩ [(A4 i1 a_s.length), (Spec Try.prog 35 [(.int .i64 (a_s.getD (i1).toNat (0 : Int))), (.vpt 34001 64 0 0)] [(34001, .arr 1 53 64 (fun i => eB (l2.getD i false)))] (.bool x5.1) [(34001, .arr 1 53 64 (fun i => eB (x5.2.getD i false)))])] hq ⟨hc4, (Oe (a_s.getD (i1).toNat (0 : Int)) l2 x5 hx5), trivial⟩ ?_; refine Aj x5.1 (by kernel_rfl) (fun hb => ?_) (fun hb => ?_)
      · replace h := Ao hb h; clear hb; refine As ⟨[(4, (.int .i64 i1))], [(38000, .arr 1 53 64 (fun i => eB (x5.2.getD i false)))], []⟩ hq ?_; refine Ar ?_; refine Bc ?_; refine A0 ?_; obtain rfl := OI h; exact ⟨(by intro hh; cases hh), rfl, ⟨.inl rfl, [(38000, 38000)], by kernel_rfl⟩⟩
      · replace h := Au hb h; clear hb; refine Ai ?_; refine Ak ?_; refine Aa ?_; refine Kd ⟨[(0, (Q246 a_s)), (1, Zi), (7, (.int .i64 (a_s.length : Int))), (8, (.int .i64 (Bg (i1 + (1 : Int)))))], [(38000, .arr 1 53 64 (fun i => eB (x5.2.getD i false)))], []⟩ hq ?_; obtain rfl := OI h; exact ⟨rfl, Le.refl _ _⟩
    · replace h := Au hb h; clear hb; refine A7 ?_; refine A2 ?_; obtain rfl := OI h; exact ⟨(by intro hh; cases hh), rfl, Fo [] [38000] hq⟩
  · clear hx6; rcases x6 with l3 | r8
    · rintro e st' ⟨rfl, hl7⟩; refine Az ?_; refine Aa ?_; refine Af hl7 ?_; refine As ⟨[(4, (.int .i64 (-1 : Int)))], [(38000, .arr 1 53 64 (fun i => eB (l3.getD i false)))], []⟩ hq ?_; refine Ar ?_; obtain rfl := OI h; exact ⟨.inl rfl, [(38000, 38000)], by kernel_rfl⟩
    · rintro e st' ⟨rfl, hk⟩; refine Bc ?_; refine A0 ?_; obtain rfl := OI h; exact hk
def Cl (a_s : List (Int)) (a_fc0 : List (Bool)) : Option (Bool × List (Bool)) :=
  ((Dm a_s a_fc0).bind fun x1 => (some ((decide (((0 : Int) : Int) ≤ x1.1)), x1.2)))
theorem He (a_s : List (Int)) (a_fc0 : List (Bool)) (r : (Bool × List (Bool))) (h : Cl a_s a_fc0 = some r) : Spec Try.prog 34 [(AV.list 1 Ad (0 : Int) a_s .none), (.clo 35 [] [(.vpt 38000 64 0 0)])] [(38000, .arr 1 53 64 (fun i => eB (a_fc0.getD i false)))] (.bool r.1) [(38000, .arr 1 53 64 (fun i => eB (r.2.getD i false)))] := by
  refine Ap (fn := Try.f34) Try.func34 rfl rfl (by kernel_rfl) (fun Γ hn hΓ => ?_); have hq : RgQ Try.prog Γ 9 [(38000, .arr 1 53 64 (fun i => eB (a_fc0.getD i false)))] := ⟨hn, mix, hΓ⟩; unfold Cl at h; refine As ⟨[(0, (AV.list 1 Ad (0 : Int) a_s .none)), (1, (.clo 35 [] [(.vpt 38000 64 0 0)]))], [(38000, .arr 1 53 64 (fun i => eB (a_fc0.getD i false)))], []⟩ hq ?_; obtain ⟨x1, hx1, h⟩ := bind_some h; refine B7 [⟨[(38000, 38000)], [], (.int .i64 x1.1), [(38000, .arr 1 53 64 (fun i => eB (x1.2.getD i false)))], []⟩] [] ⟨[(4, (.bool (decide (((0 : Int) : Int) ≤ x1.1))))], [(38000, .arr 1 53 64 (fun i => eB (x1.2.getD i false)))], []⟩ [(Spec Try.prog 50 [(AV.list 1 Ad (0 : Int) a_s .none), (.clo 35 [] [(.vpt 38000 64 0 0)])] [(38000, .arr 1 53 64 (fun i => eB (a_fc0.getD i false)))] (.int .i64 x1.1) [(38000, .arr 1 53 64 (fun i => eB (x1.2.getD i false)))])] hq ⟨(Ib a_s a_fc0 x1 hx1), trivial⟩ ?_; refine Ar ?_; obtain rfl := OI h; exact ⟨.inl rfl, [(38000, 38000)], by kernel_rfl⟩
def Ch (a_g : An) (x1 : List (Int)) : (Int × List (Bool)) → Option (LR (Int × List (Bool)) (Unit ⊕ Bool)) :=
  fun ((i2, l3) : (Int × List (Bool))) => (bif (decide ((i2 : Int) < (x1.length : Int))) then (Cc (A4 i2 x1.length) (Cc (A4 (x1.getD (i2).toNat (0 : Int)) 64) (Cc (A4 (x1.getD (i2).toNat (0 : Int)) a_g.Succ.length) ((Cl (a_g.Succ.getD ((x1.getD (i2).toNat (0 : Int))).toNat []) (Dx 64 false l3 ((x1.getD (i2).toNat (0 : Int))).toNat true)).bind fun x7 => (bif x7.1 then (some (.done (.inr false))) else (some (.next ((Bg (i2 + (1 : Int))), x7.2)))))))) else (some (.done (.inl ()))))
def Vj (x1 : List (Int)) (i2 : Int) := (x1.getD (i2).toNat (0 : Int))
def T0 (x1 : List (Int)) : AV := (AV.list 1 Ad (0 : Int) x1 (.own 8))
def Sg (a_g : An) : List AV := [(AV.list 1 eLI64 [] a_g.Succ .none), (AV.list 1 eLI64 [] a_g.Pred .none)]
def Q251 (a_g : An) (l3 : List (Bool)) (x1 : List (Int)) : List (Nat × Own) := [(1, .row 26 (Sg a_g)), (4, .arr 1 53 64 (fun i => eB (l3.getD i false))), (8, .tok 1 3 x1.length)]
def Q250 (x1 : List (Int)) (i2 : Int) : List (Nat × AV) := [(1, (.ptr 1 0)), (4, (.vpt 4 64 0 0)), (12, (T0 x1)), (13, (.int .i64 (x1.length : Int))), (14, (.int .i64 i2))]
def Q249 (x1 : List (Int)) (i2 : Int) : List (Nat × AV) := [(1, (.ptr 1 0)), (4, (.vpt 4 64 0 0)), (6, (.int .i64 (Vj x1 i2))), (12, (T0 x1)), (13, (.int .i64 (x1.length : Int))), (14, (.int .i64 i2))]
def Em (a_g : An) : Option Bool :=
  ((Dd a_g (0 : Int)).bind fun x1 => (bif (((x1.length : Int) : Int) == (0 : Int)) then (some false) else ((At (S := (Int × List (Bool))) (X := (Unit ⊕ Bool)) (Ch a_g x1) ((0 : Int), (List.replicate 64 false))).bind (fun x8 => (match x8 with | (.inl _) => (some true) | (.inr r10) => (some r10))))))
theorem Ky (a_g : An) (r : Bool) (h : Em a_g = some r) : Spec Try.prog 16 [(.agg (Bx a_g))] [] (.bool r) [] := by
  refine Ap (fn := Try.f16) Try.func16 rfl rfl (by kernel_rfl) (fun Γ hn hΓ => ?_); have hq : RgQ Try.prog Γ 28 [] := ⟨hn, mix, hΓ⟩; unfold Em at h; refine As ⟨[(1, (.ptr 1 0))], [(1, .row 26 (Sg a_g))], []⟩ hq ?_; obtain ⟨x1, hx1, h⟩ := bind_some h; refine B7 [⟨[], [(20000, 8)], (AV.list 1 Ad (0 : Int) x1 (.own 20000)), [(20000, .tok 1 3 x1.length)], []⟩] [] ⟨[(1, (.ptr 1 0)), (3, (T0 x1))], [(1, .row 26 (Sg a_g)), (8, .tok 1 3 x1.length)], []⟩ [(Spec Try.prog 20 [(.agg (Bx a_g)), (.int .i64 (0 : Int))] [] (AV.list 1 Ad (0 : Int) x1 (.own 20000)) [(20000, .tok 1 3 x1.length)])] hq ⟨(Ir a_g (0 : Int) x1 hx1), trivial⟩ ?_; refine Ae ?_; refine As ⟨[(1, (.ptr 1 0)), (3, (T0 x1)), (11, (.bool (((x1.length : Int) : Int) == (0 : Int))))], [(1, .row 26 (Sg a_g)), (8, .tok 1 3 x1.length)], []⟩ hq ?_; refine Aj (((x1.length : Int) : Int) == (0 : Int)) (by kernel_rfl) (fun hb => ?_) (fun hb => ?_)
  · replace h := Ao hb h; clear hb; refine As ⟨[(2, (.bool false))], [], []⟩ hq ?_; refine Ar ?_; refine A0 ?_; obtain rfl := OI h; exact ⟨.inl rfl, [], by kernel_rfl⟩
  · replace h := Au hb h; clear hb; refine Ai ?_; refine Aa ?_; refine B7 [] [(4, (.vpt 4 64 0 0))] ⟨[(1, (.ptr 1 0)), (3, (T0 x1)), (4, (.vpt 4 64 0 0))], [(1, .row 26 (Sg a_g)), (4, .arr 1 53 64 (fun i_ => AV.eraseAll (fun n_ => Cb n_ [1, 4, 8]) ((fun i => (((List.replicate 64 [(.bool false)]).flatten).drop (i * 1)).take 1) i_))), (8, .tok 1 3 x1.length)], []⟩ [] hq trivial ?_; refine Af (Cg (st' := ⟨[(1, (.ptr 1 0)), (3, (T0 x1)), (4, (.vpt 4 64 0 0))], [(1, .row 26 (Sg a_g)), (4, .arr 1 53 64 (fun i => eB ((List.replicate 64 false).getD i false))), (8, .tok 1 3 x1.length)], []⟩) (TmpsLe.refl _) (.same (.arr (Id (e := eB) (d := false) (z := [(.bool false)]) rfl rfl rfl) (.same .nil)))) ?_; refine Ae ?_; refine As ⟨[(1, (.ptr 1 0)), (4, (.vpt 4 64 0 0)), (12, (T0 x1)), (13, (.int .i64 (x1.length : Int))), (14, (.int .i64 (0 : Int)))], [(1, .row 26 (Sg a_g)), (4, .arr 1 53 64 (fun i => eB ((List.replicate 64 false).getD i false))), (8, .tok 1 3 x1.length)], []⟩ hq ?_; refine Ah ?_; refine Af (st' := (fun ((i2, l3) : (Int × List (Bool))) => (⟨(Q250 x1 i2), (Q251 a_g l3 x1), []⟩ : St)) ((0 : Int), (List.replicate 64 false))) (Le.refl _ _) ?_; obtain ⟨x8, hx8, h⟩ := bind_some h; refine A8 (fun ((i2, l3) : (Int × List (Bool))) => (⟨(Q250 x1 i2), (Q251 a_g l3 x1), []⟩ : St)) _ (fun (x_ : (Unit ⊕ Bool)) (e : Exit) (st : St) => match x_ with | (.inl _) => e = (.exit 0) ∧ Le Γ st (⟨[], [], []⟩ : St) | (.inr r_) => e = .ret ∧ Jv Try.prog Try.f16.results.toList [] (.bool r_) [] e st) ?_ hx8 ?_
    · rintro ⟨i2, l3⟩ y h; unfold Ch at h; refine As ⟨[(1, (.ptr 1 0)), (4, (.vpt 4 64 0 0)), (12, (T0 x1)), (13, (.int .i64 (x1.length : Int))), (14, (.int .i64 i2)), (15, (.bool (decide ((i2 : Int) < (x1.length : Int)))))], (Q251 a_g l3 x1), []⟩ hq ?_; refine Ae ?_; refine Aj (decide ((i2 : Int) < (x1.length : Int))) (by kernel_rfl) (fun hb => ?_) (fun hb => ?_)
      · replace h := Ao hb h; clear hb; refine Ai ?_; refine Aa ?_; refine Ae ?_; refine Ah ?_; obtain ⟨hc4, h⟩ := Ab h; refine B7 [] [] ⟨(Q249 x1 i2), (Q251 a_g l3 x1), []⟩ [(A4 i2 x1.length)] hq ⟨hc4, trivial⟩ ?_; obtain ⟨hc5, h⟩ := Ab h; refine B7 [] [] ⟨(Q249 x1 i2), [(1, .row 26 (Sg a_g)), (4, .arr 1 53 64 (fun i_ => AV.eraseAll (fun n_ => Cb n_ [1, 4, 8]) ((Ff (fun i => eB (l3.getD i false)) ((Vj x1 i2)).toNat 0 [(.bool true)]) i_))), (8, .tok 1 3 x1.length)], []⟩ [(A4 (Vj x1 i2) 64), (64 = 64)] hq ⟨hc5, rfl, trivial⟩ ?_; refine Af (Cg (st' := ⟨(Q249 x1 i2), [(1, .row 26 (Sg a_g)), (4, .arr 1 53 64 (fun i => eB ((Dx 64 false l3 ((Vj x1 i2)).toNat true).getD i false))), (8, .tok 1 3 x1.length)], []⟩) (TmpsLe.refl _) (.same (.arr (Be rfl (fun k_ hk_ => (congrArg (AV.eraseAll (fun n_ => Cb n_ [1, 4, 8])) ((Fk (fun _ _ => rfl) (D7 hc5) rfl) k_ hk_)).trans rfl)) (.same .nil)))) ?_; obtain ⟨hc6, h⟩ := Ab h; obtain ⟨x7, hx7, h⟩ := bind_some h; refine B7 [⟨[(4, 38000)], [], (.bool x7.1), [(38000, .arr 1 53 64 (fun i => eB (x7.2.getD i false)))], []⟩] [] ⟨[(1, (.ptr 1 0)), (4, (.vpt 4 64 0 0)), (12, (T0 x1)), (13, (.int .i64 (x1.length : Int))), (14, (.int .i64 i2)), (26, (.bool x7.1))], [(1, .row 26 (Sg a_g)), (4, .arr 1 53 64 (fun i => eB (x7.2.getD i false))), (8, .tok 1 3 x1.length)], []⟩ [(A4 (Vj x1 i2) a_g.Succ.length), (Spec Try.prog 34 [(AV.list 1 Ad (0 : Int) (a_g.Succ.getD ((Vj x1 i2)).toNat []) .none), (.clo 35 [] [(.vpt 38000 64 0 0)])] [(38000, .arr 1 53 64 (fun i => eB ((Dx 64 false l3 ((Vj x1 i2)).toNat true).getD i false)))] (.bool x7.1) [(38000, .arr 1 53 64 (fun i => eB (x7.2.getD i false)))])] hq ⟨hc6, (He (a_g.Succ.getD ((Vj x1 i2)).toNat []) (Dx 64 false l3 ((Vj x1 i2)).toNat true) x7 hx7), trivial⟩ ?_; refine Aj x7.1 (by kernel_rfl) (fun hb => ?_) (fun hb => ?_)
        · replace h := Ao hb h; clear hb; refine As ⟨[(2, (.bool false))], [], []⟩ hq ?_; refine Ar ?_; refine Bc ?_; refine A0 ?_; obtain rfl := OI h; exact ⟨(by intro hh; cases hh), rfl, ⟨.inl rfl, [], by kernel_rfl⟩⟩
        · replace h := Au hb h; clear hb; refine Ai ?_; refine Ak ?_; refine Aa ?_; refine Kd ⟨[(1, (.ptr 1 0)), (4, (.vpt 4 64 0 0)), (12, (T0 x1)), (13, (.int .i64 (x1.length : Int))), (14, (.int .i64 (Bg (i2 + (1 : Int)))))], [(1, .row 26 (Sg a_g)), (4, .arr 1 53 64 (fun i => eB (x7.2.getD i false))), (8, .tok 1 3 x1.length)], []⟩ hq ?_; obtain rfl := OI h; exact ⟨rfl, Le.refl _ _⟩
      · replace h := Au hb h; clear hb; refine A7 ?_; refine A2 ?_; obtain rfl := OI h; exact ⟨(by intro hh; cases hh), rfl, Fo [] [] hq⟩
    · clear hx8; rcases x8 with _ | r10
      · rintro e st' ⟨rfl, hl9⟩; refine Az ?_; refine Aa ?_; refine Af hl9 ?_; refine As ⟨[(2, (.bool true))], [], []⟩ hq ?_; refine Ar ?_; obtain rfl := OI h; exact ⟨.inl rfl, [], by kernel_rfl⟩
      · rintro e st' ⟨rfl, hk⟩; refine Bc ?_; refine A0 ?_; obtain rfl := OI h; exact hk
def Dh (a_g : An) : Option Bool :=
  ((Gr a_g).bind fun x1 => (bif (!x1) then (some false) else ((Eh a_g).bind fun x2 => ((F0 a_g.Succ x2).bind fun x3 => ((Ey x3).bind fun x4 => ((Em x4.1).bind fun x5 => (some x5)))))))
theorem G6 (a_g : An) (r : Bool) (h : Dh a_g = some r) : Spec Try.prog 13 [(.agg (Bx a_g))] [] (.bool r) [] := by
  refine Ap (fn := Try.f13) Try.func13 rfl rfl (by kernel_rfl) (fun Γ hn hΓ => ?_); have hq : RgQ Try.prog Γ 19 [] := ⟨hn, mix, hΓ⟩; unfold Dh at h; refine As ⟨[(1, (.ptr 1 0))], [(1, .row 26 [(AV.list 1 eLI64 [] a_g.Succ .none), (AV.list 1 eLI64 [] a_g.Pred .none)])], []⟩ hq ?_; refine Ae ?_; obtain ⟨x1, hx1, h⟩ := bind_some h; refine B7 [⟨[], [], (.bool x1), [], []⟩] [] ⟨[(1, (.ptr 1 0)), (7, (.bool (!x1)))], [(1, .row 26 [(AV.list 1 eLI64 [] a_g.Succ .none), (AV.list 1 eLI64 [] a_g.Pred .none)])], []⟩ [(Spec Try.prog 32 [(.agg (Bx a_g))] [] (.bool x1) [])] hq ⟨(O0 a_g x1 hx1), trivial⟩ ?_; refine Aj (!x1) (by kernel_rfl) (fun hb => ?_) (fun hb => ?_)
  · replace h := Ao hb h; clear hb; refine As ⟨[(2, (.bool false))], [], []⟩ hq ?_; refine Ar ?_; refine A0 ?_; obtain rfl := OI h; exact ⟨.inl rfl, [], by kernel_rfl⟩
  · replace h := Au hb h; clear hb; refine Ai ?_; refine Aa ?_; obtain ⟨x2, hx2, h⟩ := bind_some h; obtain ⟨x3, hx3, h⟩ := bind_some h; obtain ⟨x4, hx4, h⟩ := bind_some h; refine B7 [⟨[], [(20000, 12)], (AV.list 2 Cr ((0 : Int), (0 : Int)) x2 (.own 20000)), [(20000, .tok 2 45 x2.length)], []⟩, ⟨[], [(20000, 13)], (AV.list 1 eLI64 [] x3 (.own 20000)), [(20000, .tok 1 36 x3.length)], []⟩, ⟨[], [], (.tuple [(.agg (Bx x4.1)), (.int .i64 x4.2)]), [], []⟩] [] ⟨[(3, (.ptr 3 0))], [(3, .row 26 [(AV.list 1 eLI64 [] x4.1.Succ .none), (AV.list 1 eLI64 [] x4.1.Pred .none)])], []⟩ [(Spec Try.prog 18 [(.agg (Bx a_g))] [] (AV.list 2 Cr ((0 : Int), (0 : Int)) x2 (.own 20000)) [(20000, .tok 2 45 x2.length)]), (Spec Try.prog 33 [(AV.list 1 eLI64 [] a_g.Succ .none), (AV.list 2 Cr ((0 : Int), (0 : Int)) x2 .none)] [] (AV.list 1 eLI64 [] x3 (.own 20000)) [(20000, .tok 1 36 x3.length)]), (Spec Try.prog 10 [(AV.list 1 eLI64 [] x3 .none)] [] (.tuple [(.agg (Bx x4.1)), (.int .i64 x4.2)]) [])] hq ⟨(Jk a_g x2 hx2), (Qe a_g.Succ x2 x3 hx3), (Ji x3 x4 hx4), trivial⟩ ?_; obtain ⟨x5, hx5, h⟩ := bind_some h; refine B7 [⟨[], [], (.bool x5), [], []⟩] [] ⟨[(2, (.bool x5))], [], []⟩ [(Spec Try.prog 16 [(.agg (Bx x4.1))] [] (.bool x5) [])] hq ⟨(Ky x4.1 x5 hx5), trivial⟩ ?_; refine Ar ?_; obtain rfl := OI h; exact ⟨.inl rfl, [], by kernel_rfl⟩
def Q260 (x8 : Int) := ((x8 : Int) == (1 : Int))
def Q261 (x9 : Int) := ((x9 : Int) == (0 : Int))
def Q264 (x1 : (An × Int)) := (((x1.2 : Int) == (0 : Int)) == true)
def Q265 := ([(1 : Int), (2 : Int)] : List (Int))
def Q262 : AV := (AV.list 1 Ad (0 : Int) ([(1 : Int)] : List (Int)) .exact)
def Zm (x1 : (An × Int)) (x2 : List (Ax)) := (bif (bif ((x1.2 : Int) == (0 : Int)) then (((x2.length : Int) : Int) == (1 : Int)) else false) then (((x2.getD ((0 : Int)).toNat (default : Ax)).Head : Int) == (1 : Int)) else false)
def T5 (x1 : (An × Int)) (x2 : List (Ax)) (x6 : Bool) (x3 : List ((Int × Int))) := (bif (bif (bif (Zm x1 x2) then x6 else false) then (((x3.length : Int) : Int) == (1 : Int)) else false) then ((((x3.getD ((0 : Int)).toNat ((0 : Int), (0 : Int))).1 : Int) == (2 : Int)) && ((((x3.getD ((0 : Int)).toNat ((0 : Int), (0 : Int))).2 : Int) == (1 : Int)) && true)) else false)
def Q268 (x1 : (An × Int)) (x2 : List (Ax)) (x6 : Bool) (x3 : List ((Int × Int))) (x8 : Int) := ((bif (T5 x1 x2 x6 x3) then (Q260 x8) else false) == true)
def Q263 (x1 : (An × Int)) : List AV := [(AV.list 1 eLI64 [] x1.1.Succ .none), (AV.list 1 eLI64 [] x1.1.Pred .none)]
def Pk (x1 : (An × Int)) (x2 : List (Ax)) (x6 : Bool) (x3 : List ((Int × Int))) (x8 : Int) (x9 : Int) := (bif (bif (T5 x1 x2 x6 x3) then (Q260 x8) else false) then (Q261 x9) else false)
def Ti (x1 : (An × Int)) (x2 : List (Ax)) := ((bif ((x1.2 : Int) == (0 : Int)) then (((x2.length : Int) : Int) == (1 : Int)) else false) == true)
def Q259 := ([([(1 : Int)] : List (Int)), ([(2 : Int), (3 : Int)] : List (Int)), ([(1 : Int)] : List (Int)), ([] : List Int)] : List (List (Int)))
def N7 (x1 : (An × Int)) (x2 : List (Ax)) := ((Zm x1 x2) == true)
def Q257 (x1 : (An × Int)) (x2 : List (Ax)) (x6 : Bool) := ((bif (Zm x1 x2) then x6 else false) == true)
def Tf (x1 : (An × Int)) (x2 : List (Ax)) (x6 : Bool) (x3 : List ((Int × Int))) := ((bif (bif (Zm x1 x2) then x6 else false) then (((x3.length : Int) : Int) == (1 : Int)) else false) == true)
def D1  : Option Bool :=
  ((Ey ([([(1 : Int)] : List (Int)), ([(2 : Int), (3 : Int)] : List (Int)), ([(1 : Int)] : List (Int)), ([] : List Int)] : List (List (Int)))).bind fun x1 => ((Fc x1.1).bind fun x2 => ((Eh x1.1).bind fun x3 => (Cc (((bif ((x1.2 : Int) == (0 : Int)) then (((x2.length : Int) : Int) == (1 : Int)) else false) == true) = true → (A4 (0 : Int) x2.length)) (Cc (((bif (bif ((x1.2 : Int) == (0 : Int)) then (((x2.length : Int) : Int) == (1 : Int)) else false) then (((x2.getD ((0 : Int)).toNat (default : Ax)).Head : Int) == (1 : Int)) else false) == true) = true → (A4 (0 : Int) x2.length)) ((bif ((bif (bif ((x1.2 : Int) == (0 : Int)) then (((x2.length : Int) : Int) == (1 : Int)) else false) then (((x2.getD ((0 : Int)).toNat (default : Ax)).Head : Int) == (1 : Int)) else false) == true) then Cw ((x2.getD ((0 : Int)).toNat (default : Ax)).Body) ([(1 : Int), (2 : Int)] : List (Int)) else some false).bind fun x6 => (Cc (((bif (bif (bif (bif ((x1.2 : Int) == (0 : Int)) then (((x2.length : Int) : Int) == (1 : Int)) else false) then (((x2.getD ((0 : Int)).toNat (default : Ax)).Head : Int) == (1 : Int)) else false) then x6 else false) then (((x3.length : Int) : Int) == (1 : Int)) else false) == true) = true → (A4 (0 : Int) x3.length)) ((bif ((bif (bif (bif (bif (bif ((x1.2 : Int) == (0 : Int)) then (((x2.length : Int) : Int) == (1 : Int)) else false) then (((x2.getD ((0 : Int)).toNat (default : Ax)).Head : Int) == (1 : Int)) else false) then x6 else false) then (((x3.length : Int) : Int) == (1 : Int)) else false) then ((((x3.getD ((0 : Int)).toNat ((0 : Int), (0 : Int))).1 : Int) == (2 : Int)) && ((((x3.getD ((0 : Int)).toNat ((0 : Int), (0 : Int))).2 : Int) == (1 : Int)) && true)) else false) == true) then Fe x1.1 (2 : Int) else some (0 : Int)).bind fun x8 => ((bif ((bif (bif (bif (bif (bif (bif ((x1.2 : Int) == (0 : Int)) then (((x2.length : Int) : Int) == (1 : Int)) else false) then (((x2.getD ((0 : Int)).toNat (default : Ax)).Head : Int) == (1 : Int)) else false) then x6 else false) then (((x3.length : Int) : Int) == (1 : Int)) else false) then ((((x3.getD ((0 : Int)).toNat ((0 : Int), (0 : Int))).1 : Int) == (2 : Int)) && ((((x3.getD ((0 : Int)).toNat ((0 : Int), (0 : Int))).2 : Int) == (1 : Int)) && true)) else false) then ((x8 : Int) == (1 : Int)) else false) == true) then Fe x1.1 (3 : Int) else some (0 : Int)).bind fun x9 => ((bif ((bif (bif (bif (bif (bif (bif (bif ((x1.2 : Int) == (0 : Int)) then (((x2.length : Int) : Int) == (1 : Int)) else false) then (((x2.getD ((0 : Int)).toNat (default : Ax)).Head : Int) == (1 : Int)) else false) then x6 else false) then (((x3.length : Int) : Int) == (1 : Int)) else false) then ((((x3.getD ((0 : Int)).toNat ((0 : Int), (0 : Int))).1 : Int) == (2 : Int)) && ((((x3.getD ((0 : Int)).toNat ((0 : Int), (0 : Int))).2 : Int) == (1 : Int)) && true)) else false) then ((x8 : Int) == (1 : Int)) else false) then ((x9 : Int) == (0 : Int)) else false) == true) then Dh x1.1 else some false).bind fun x10 => ((bif ((bif (bif (bif (bif (bif (bif (bif (bif ((x1.2 : Int) == (0 : Int)) then (((x2.length : Int) : Int) == (1 : Int)) else false) then (((x2.getD ((0 : Int)).toNat (default : Ax)).Head : Int) == (1 : Int)) else false) then x6 else false) then (((x3.length : Int) : Int) == (1 : Int)) else false) then ((((x3.getD ((0 : Int)).toNat ((0 : Int), (0 : Int))).1 : Int) == (2 : Int)) && ((((x3.getD ((0 : Int)).toNat ((0 : Int), (0 : Int))).2 : Int) == (1 : Int)) && true)) else false) then ((x8 : Int) == (1 : Int)) else false) then ((x9 : Int) == (0 : Int)) else false) then x10 else false) == true) then Em x1.1 else some false).bind fun x11 => (some (bif (bif (bif (bif (bif (bif (bif (bif (bif ((x1.2 : Int) == (0 : Int)) then (((x2.length : Int) : Int) == (1 : Int)) else false) then (((x2.getD ((0 : Int)).toNat (default : Ax)).Head : Int) == (1 : Int)) else false) then x6 else false) then (((x3.length : Int) : Int) == (1 : Int)) else false) then ((((x3.getD ((0 : Int)).toNat ((0 : Int), (0 : Int))).1 : Int) == (2 : Int)) && ((((x3.getD ((0 : Int)).toNat ((0 : Int), (0 : Int))).2 : Int) == (1 : Int)) && true)) else false) then ((x8 : Int) == (1 : Int)) else false) then ((x9 : Int) == (0 : Int)) else false) then x10 else false) then (!x11) else false)))))))))))))
theorem Kj  (r : Bool) (h : D1 = some r) : Spec Try.prog 8 [] [] (.bool r) [] := by
  refine Ap (fn := Try.f8) Try.func8 rfl rfl (by kernel_rfl) (fun Γ hn hΓ => ?_); have hq : RgQ Try.prog Γ 70 [] := ⟨hn, mix, hΓ⟩; unfold D1 at h; refine As ⟨[], [], []⟩ hq ?_; obtain ⟨x1, hx1, h⟩ := bind_some h; refine B7 [⟨[], [], (.tuple [(.agg (Bx x1.1)), (.int .i64 x1.2)]), [], []⟩] [(6, Q262), (7, (AV.list 1 Ad (0 : Int) ([(2 : Int), (3 : Int)] : List (Int)) .exact)), (8, Q262), (9, (AV.list 1 eLI64 [] Q259 .exact))] ⟨[(1, (.ptr 1 0)), (2, (.int .i64 x1.2))], [(1, .row 26 (Q263 x1))], []⟩ [(AVle (.slice 1 1 (fun i => ([[(.int .i64 (1 : Int))]] : List (List AV)).getD i []) .exact) Q262), (AVle (.slice 1 2 (fun i => ([[(.int .i64 (2 : Int))], [(.int .i64 (3 : Int))]] : List (List AV)).getD i []) .exact) (AV.list 1 Ad (0 : Int) ([(2 : Int), (3 : Int)] : List (Int)) .exact)), (AVle (.slice 1 1 (fun i => ([[(.int .i64 (1 : Int))]] : List (List AV)).getD i []) .exact) Q262), (AVle (.slice 1 4 (fun i => ([[(AV.list 1 Ad (0 : Int) ([(1 : Int)] : List (Int)) .none)], [(AV.list 1 Ad (0 : Int) ([(2 : Int), (3 : Int)] : List (Int)) .none)], [(AV.list 1 Ad (0 : Int) ([(1 : Int)] : List (Int)) .none)], [(.slice 0 0 (fun _ => []) .none)]] : List (List AV)).getD i []) .exact) (AV.list 1 eLI64 [] Q259 .exact)), (Spec Try.prog 10 [(AV.list 1 eLI64 [] Q259 .none)] [] (.tuple [(.agg (Bx x1.1)), (.int .i64 x1.2)]) [])] hq ⟨(Ft rfl (fun i hi => Fa (e := Ad) (d := (0 : Int)) ([(1 : Int)] : List (Int)) i hi)), (Ft rfl (fun i hi => Fa (e := Ad) (d := (0 : Int)) ([(2 : Int), (3 : Int)] : List (Int)) i hi)), (Ft rfl (fun i hi => Fa (e := Ad) (d := (0 : Int)) ([(1 : Int)] : List (Int)) i hi)), (av_litL (e := eLI64) (d := []) rfl (Ov (.cons (AVle.refl _) .nil) (Ov (.cons (AVle.refl _) .nil) (Ov (.cons (AVle.refl _) .nil) (Ov (.cons av_nil0 .nil) (lit_nil rfl))))) (fun _ => rfl)), (Ji Q259 x1 hx1), trivial⟩ ?_; obtain ⟨x2, hx2, h⟩ := bind_some h; refine B7 [⟨[], [(20000, 14)], (AV.list 2 Dr (default : Ax) x2 (.own 20000)), [(20000, .tok 2 38 x2.length)], []⟩] [] ⟨[(1, (.ptr 1 0)), (2, (.int .i64 x1.2)), (3, (AV.list 2 Dr (default : Ax) x2 (.own 14)))], [(1, .row 26 (Q263 x1)), (14, .tok 2 38 x2.length)], []⟩ [(Spec Try.prog 12 [(.agg (Bx x1.1))] [] (AV.list 2 Dr (default : Ax) x2 (.own 20000)) [(20000, .tok 2 38 x2.length)])] hq ⟨(Je x1.1 x2 hx2), trivial⟩ ?_; obtain ⟨x3, hx3, h⟩ := bind_some h; refine B7 [⟨[], [(20000, 16)], (AV.list 2 Cr ((0 : Int), (0 : Int)) x3 (.own 20000)), [(20000, .tok 2 45 x3.length)], []⟩] [] ⟨[(1, (.ptr 1 0)), (2, (.int .i64 x1.2)), (3, (AV.list 2 Dr (default : Ax) x2 (.own 14))), (4, (AV.list 2 Cr ((0 : Int), (0 : Int)) x3 (.own 16)))], [(1, .row 26 (Q263 x1)), (14, .tok 2 38 x2.length), (16, .tok 2 45 x3.length)], []⟩ [(Spec Try.prog 18 [(.agg (Bx x1.1))] [] (AV.list 2 Cr ((0 : Int), (0 : Int)) x3 (.own 20000)) [(20000, .tok 2 45 x3.length)])] hq ⟨(Jk x1.1 x3 hx3), trivial⟩ ?_; obtain ⟨hc4, h⟩ := Ab h; obtain ⟨hc5, h⟩ := Ab h; obtain ⟨x6, hx6, h⟩ := bind_some h; obtain ⟨hc7, h⟩ := Ab h; obtain ⟨x8, hx8, h⟩ := bind_some h; obtain ⟨x9, hx9, h⟩ := bind_some h; obtain ⟨x10, hx10, h⟩ := bind_some h; obtain ⟨x11, hx11, h⟩ := bind_some h; refine B7 [⟨[], [], (.bool x6), [], []⟩, ⟨[], [], (.int .i64 x8), [], []⟩, ⟨[], [], (.int .i64 x9), [], []⟩, ⟨[], [], (.bool x10), [], []⟩, ⟨[], [], (.bool x11), [], []⟩] [(36, (AV.list 1 Ad (0 : Int) Q265 .exact))] ⟨[(0, (.bool (bif (bif (Pk x1 x2 x6 x3 x8 x9) then x10 else false) then (!x11) else false)))], [], []⟩ [((Q264 x1) = true → (Q264 x1) = true), ((Q264 x1) = true → (Q264 x1) = true), (((x1.2 : Int) == (0 : Int)) = true → (Q264 x1) = true), ((Ti x1 x2) = true → (Ti x1 x2) = true), ((Ti x1 x2) = true → (A4 (0 : Int) x2.length)), ((Ti x1 x2) = true → (Ti x1 x2) = true), ((Ti x1 x2) = true → (Ti x1 x2) = true), ((Ti x1 x2) = true → (Ti x1 x2) = true), ((bif ((x1.2 : Int) == (0 : Int)) then (((x2.length : Int) : Int) == (1 : Int)) else false) = true → (Ti x1 x2) = true), ((N7 x1 x2) = true → (N7 x1 x2) = true), ((N7 x1 x2) = true → (A4 (0 : Int) x2.length)), ((N7 x1 x2) = true → (N7 x1 x2) = true), ((N7 x1 x2) = true → (N7 x1 x2) = true), ((N7 x1 x2) = true → (AVle (.slice 1 2 (fun i => ([[(.int .i64 (1 : Int))], [(.int .i64 (2 : Int))]] : List (List AV)).getD i []) .exact) (AV.list 1 Ad (0 : Int) Q265 .exact))), ((N7 x1 x2) = true → (N7 x1 x2) = true), ((N7 x1 x2) = true → (N7 x1 x2) = true), ((N7 x1 x2) = true → (Spec Try.prog 21 [(AV.list 1 Ad (0 : Int) (x2.getD ((0 : Int)).toNat (default : Ax)).Body .none), (AV.list 1 Ad (0 : Int) Q265 .none)] [] (.bool x6) [])), ((Zm x1 x2) = true → (N7 x1 x2) = true), ((Q257 x1 x2 x6) = true → (Q257 x1 x2 x6) = true), ((Q257 x1 x2 x6) = true → (Q257 x1 x2 x6) = true), ((bif (Zm x1 x2) then x6 else false) = true → (Q257 x1 x2 x6) = true), ((Tf x1 x2 x6 x3) = true → (Tf x1 x2 x6 x3) = true), ((Tf x1 x2 x6 x3) = true → (A4 (0 : Int) x3.length)), ((Tf x1 x2 x6 x3) = true → (Tf x1 x2 x6 x3) = true), ((Tf x1 x2 x6 x3) = true → (Tf x1 x2 x6 x3) = true), ((Tf x1 x2 x6 x3) = true → (Tf x1 x2 x6 x3) = true), ((bif (bif (Zm x1 x2) then x6 else false) then (((x3.length : Int) : Int) == (1 : Int)) else false) = true → (Tf x1 x2 x6 x3) = true), (((T5 x1 x2 x6 x3) == true) = true → ((T5 x1 x2 x6 x3) == true) = true), (((T5 x1 x2 x6 x3) == true) = true → (Spec Try.prog 19 [(.agg (Bx x1.1)), (.int .i64 (2 : Int))] [] (.int .i64 x8) [])), (((T5 x1 x2 x6 x3) == true) = true → ((T5 x1 x2 x6 x3) == true) = true), ((T5 x1 x2 x6 x3) = true → ((T5 x1 x2 x6 x3) == true) = true), ((Q268 x1 x2 x6 x3 x8) = true → (Q268 x1 x2 x6 x3 x8) = true), ((Q268 x1 x2 x6 x3 x8) = true → (Spec Try.prog 19 [(.agg (Bx x1.1)), (.int .i64 (3 : Int))] [] (.int .i64 x9) [])), ((Q268 x1 x2 x6 x3 x8) = true → (Q268 x1 x2 x6 x3 x8) = true), ((bif (T5 x1 x2 x6 x3) then (Q260 x8) else false) = true → (Q268 x1 x2 x6 x3 x8) = true), (((Pk x1 x2 x6 x3 x8 x9) == true) = true → ((Pk x1 x2 x6 x3 x8 x9) == true) = true), (((Pk x1 x2 x6 x3 x8 x9) == true) = true → (Spec Try.prog 13 [(.agg (Bx x1.1))] [] (.bool x10) [])), ((Pk x1 x2 x6 x3 x8 x9) = true → ((Pk x1 x2 x6 x3 x8 x9) == true) = true), (((bif (Pk x1 x2 x6 x3 x8 x9) then x10 else false) == true) = true → ((bif (Pk x1 x2 x6 x3 x8 x9) then x10 else false) == true) = true), (((bif (Pk x1 x2 x6 x3 x8 x9) then x10 else false) == true) = true → (Spec Try.prog 16 [(.agg (Bx x1.1))] [] (.bool x11) [])), (((bif (Pk x1 x2 x6 x3 x8 x9) then x10 else false) == true) = true → ((bif (Pk x1 x2 x6 x3 x8 x9) then x10 else false) == true) = true), ((bif (Pk x1 x2 x6 x3 x8 x9) then x10 else false) = true → ((bif (Pk x1 x2 x6 x3 x8 x9) then x10 else false) == true) = true)] hq ⟨(fun hg => hg), (fun hg => hg), gT, (fun hg => hg), (fun hg => (hc4 hg)), (fun hg => hg), (fun hg => hg), (fun hg => hg), gT, (fun hg => hg), (fun hg => (hc5 hg)), (fun hg => hg), (fun hg => hg), (fun hg => (Ft rfl (fun i hi => Fa (e := Ad) (d := (0 : Int)) Q265 i hi))), (fun hg => hg), (fun hg => hg), (fun hg => (K8 ((x2.getD ((0 : Int)).toNat (default : Ax)).Body) Q265 x6 (Ao hg hx6))), gT, (fun hg => hg), (fun hg => hg), gT, (fun hg => hg), (fun hg => (hc7 hg)), (fun hg => hg), (fun hg => hg), (fun hg => hg), gT, (fun hg => hg), (fun hg => (Na x1.1 (2 : Int) x8 (Ao hg hx8))), (fun hg => hg), gT, (fun hg => hg), (fun hg => (Na x1.1 (3 : Int) x9 (Ao hg hx9))), (fun hg => hg), gT, (fun hg => hg), (fun hg => (G6 x1.1 x10 (Ao hg hx10))), gT, (fun hg => hg), (fun hg => (Ky x1.1 x11 (Ao hg hx11))), (fun hg => hg), gT, trivial⟩ ?_; refine Ar ?_; obtain rfl := OI h; exact ⟨.inl rfl, [], by kernel_rfl⟩
def Bj (a_succ : List (List (Int))) : Int → Option (LR Int (Unit ⊕ Bool)) :=
  fun (i1 : Int) => (bif (decide ((i1 : Int) < (a_succ.length : Int))) then (Cc (A4 i1 a_succ.length) (bif (bif (decide (((100 : Int) : Int) < ((a_succ.getD (i1).toNat []).length : Int))) then true else (decide (((100 : Int) : Int) < i1))) then (some (.done (.inr false))) else (some (.next (Bg (i1 + (1 : Int))))))) else (some (.done (.inl ()))))
def Z6 (a_succ : List (List (Int))) : AV := (AV.list 1 eLI64 [] a_succ .none)
def Q269 (a_succ : List (List (Int))) (i1 : Int) := (decide (((100 : Int) : Int) < ((a_succ.getD (i1).toNat []).length : Int)))
def D0 (a_succ : List (List (Int))) : Option Bool :=
  ((At (S := Int) (X := (Unit ⊕ Bool)) (Bj a_succ) (0 : Int)).bind (fun x3 => (match x3 with | (.inl _) => (some true) | (.inr r5) => (some r5))))
theorem Kn (a_succ : List (List (Int))) (r : Bool) (h : D0 a_succ = some r) : Spec Try.prog 9 [(AV.list 1 eLI64 [] a_succ .none)] [] (.bool r) [] := by
  refine Ap (fn := Try.f9) Try.func9 rfl rfl (by kernel_rfl) (fun Γ hn hΓ => ?_); have hq : RgQ Try.prog Γ 20 [] := ⟨hn, mix, hΓ⟩; unfold D0 at h; refine As ⟨[(0, (Z6 a_succ))], [], []⟩ hq ?_; refine Ae ?_; refine As ⟨[(0, (Z6 a_succ)), (3, (.int .i64 (0 : Int)))], [], []⟩ hq ?_; refine Ah ?_; refine Af (st' := (fun (i1 : Int) => (⟨[(0, (Z6 a_succ)), (3, (.int .i64 i1))], [], []⟩ : St)) (0 : Int)) (Le.refl _ _) ?_; obtain ⟨x3, hx3, h⟩ := bind_some h; refine A8 (fun (i1 : Int) => (⟨[(0, (Z6 a_succ)), (3, (.int .i64 i1))], [], []⟩ : St)) _ (fun (x_ : (Unit ⊕ Bool)) (e : Exit) (st : St) => match x_ with | (.inl _) => e = (.exit 0) ∧ Le Γ st (⟨[], [], []⟩ : St) | (.inr r_) => e = .ret ∧ Jv Try.prog Try.f9.results.toList [] (.bool r_) [] e st) ?_ hx3 ?_
  · intro i1 y h; unfold Bj at h; refine Ae ?_; refine As ⟨[(0, (Z6 a_succ)), (3, (.int .i64 i1)), (7, (.bool (decide ((i1 : Int) < (a_succ.length : Int)))))], [], []⟩ hq ?_; refine Aj (decide ((i1 : Int) < (a_succ.length : Int))) (by kernel_rfl) (fun hb => ?_) (fun hb => ?_)
    · replace h := Ao hb h; clear hb; refine Ai ?_; refine Aa ?_; refine Ae ?_; refine Ah ?_; obtain ⟨hc2, h⟩ := Ab h; refine B7 [] [] ⟨[(0, (Z6 a_succ)), (3, (.int .i64 i1)), (19, (.bool (bif (Q269 a_succ i1) then true else (decide (((100 : Int) : Int) < i1)))))], [], []⟩ [(A4 i1 a_succ.length), (((Q269 a_succ i1) == false) = true → ((Q269 a_succ i1) == false) = true), ((Q269 a_succ i1) = false → ((Q269 a_succ i1) == false) = true)] hq ⟨hc2, (fun hg => hg), gF, trivial⟩ ?_; refine Aj (bif (Q269 a_succ i1) then true else (decide (((100 : Int) : Int) < i1))) (by kernel_rfl) (fun hb => ?_) (fun hb => ?_)
      · replace h := Ao hb h; clear hb; refine As ⟨[(2, (.bool false))], [], []⟩ hq ?_; refine Ar ?_; refine Bc ?_; refine A0 ?_; obtain rfl := OI h; exact ⟨(by intro hh; cases hh), rfl, ⟨.inl rfl, [], by kernel_rfl⟩⟩
      · replace h := Au hb h; clear hb; refine Ai ?_; refine Ak ?_; refine Aa ?_; refine Kd ⟨[(0, (Z6 a_succ)), (3, (.int .i64 (Bg (i1 + (1 : Int)))))], [], []⟩ hq ?_; obtain rfl := OI h; exact ⟨rfl, Le.refl _ _⟩
    · replace h := Au hb h; clear hb; refine A7 ?_; refine A2 ?_; obtain rfl := OI h; exact ⟨(by intro hh; cases hh), rfl, Fo [] [] hq⟩
  · clear hx3; rcases x3 with _ | r5
    · rintro e st' ⟨rfl, hl4⟩; refine Az ?_; refine Aa ?_; refine Af hl4 ?_; refine As ⟨[(2, (.bool true))], [], []⟩ hq ?_; refine Ar ?_; obtain rfl := OI h; exact ⟨.inl rfl, [], by kernel_rfl⟩
    · rintro e st' ⟨rfl, hk⟩; refine Bc ?_; refine A0 ?_; obtain rfl := OI h; exact hk
def Bo (a_l : List (Int)) (a_x : Int) : Int → Option (LR Int (Unit ⊕ Bool)) :=
  fun (i1 : Int) => (bif (decide ((i1 : Int) < (a_l.length : Int))) then (Cc (A4 i1 a_l.length) (bif (((a_l.getD (i1).toNat (0 : Int)) : Int) == a_x) then (some (.done (.inr true))) else (some (.next (Bg (i1 + (1 : Int))))))) else (some (.done (.inl ()))))
def Ze (a_l : List (Int)) : AV := (AV.list 1 Ad (0 : Int) a_l .none)
def C2 (a_l : List (Int)) (a_x : Int) : Option Bool :=
  ((At (S := Int) (X := (Unit ⊕ Bool)) (Bo a_l a_x) (0 : Int)).bind (fun x3 => (match x3 with | (.inl _) => (some false) | (.inr r5) => (some r5))))
theorem Hx (a_l : List (Int)) (a_x : Int) (r : Bool) (h : C2 a_l a_x = some r) : Spec Try.prog 14 [(AV.list 1 Ad (0 : Int) a_l .none), (.int .i64 a_x)] [] (.bool r) [] := by
  refine Ap (fn := Try.f14) Try.func14 rfl rfl (by kernel_rfl) (fun Γ hn hΓ => ?_); have hq : RgQ Try.prog Γ 18 [] := ⟨hn, mix, hΓ⟩; unfold C2 at h; refine As ⟨[(0, (Ze a_l)), (1, (.int .i64 a_x))], [], []⟩ hq ?_; refine Ae ?_; refine As ⟨[(0, (Ze a_l)), (1, (.int .i64 a_x)), (5, (.int .i64 (0 : Int)))], [], []⟩ hq ?_; refine Ah ?_; refine Af (st' := (fun (i1 : Int) => (⟨[(0, (Ze a_l)), (1, (.int .i64 a_x)), (5, (.int .i64 i1))], [], []⟩ : St)) (0 : Int)) (Le.refl _ _) ?_; obtain ⟨x3, hx3, h⟩ := bind_some h; refine A8 (fun (i1 : Int) => (⟨[(0, (Ze a_l)), (1, (.int .i64 a_x)), (5, (.int .i64 i1))], [], []⟩ : St)) _ (fun (x_ : (Unit ⊕ Bool)) (e : Exit) (st : St) => match x_ with | (.inl _) => e = (.exit 0) ∧ Le Γ st (⟨[], [], []⟩ : St) | (.inr r_) => e = .ret ∧ Jv Try.prog Try.f14.results.toList [] (.bool r_) [] e st) ?_ hx3 ?_
  · intro i1 y h; unfold Bo at h; refine Ae ?_; refine As ⟨[(0, (Ze a_l)), (1, (.int .i64 a_x)), (5, (.int .i64 i1)), (9, (.bool (decide ((i1 : Int) < (a_l.length : Int)))))], [], []⟩ hq ?_; refine Aj (decide ((i1 : Int) < (a_l.length : Int))) (by kernel_rfl) (fun hb => ?_) (fun hb => ?_)
    · replace h := Ao hb h; clear hb; refine Ai ?_; refine Aa ?_; refine Ae ?_; refine Ah ?_; obtain ⟨hc2, h⟩ := Ab h; refine B7 [] [] ⟨[(0, (Ze a_l)), (1, (.int .i64 a_x)), (5, (.int .i64 i1)), (17, (.bool (((a_l.getD (i1).toNat (0 : Int)) : Int) == a_x)))], [], []⟩ [(A4 i1 a_l.length)] hq ⟨hc2, trivial⟩ ?_; refine Aj (((a_l.getD (i1).toNat (0 : Int)) : Int) == a_x) (by kernel_rfl) (fun hb => ?_) (fun hb => ?_)
      · replace h := Ao hb h; clear hb; refine As ⟨[(4, (.bool true))], [], []⟩ hq ?_; refine Ar ?_; refine Bc ?_; refine A0 ?_; obtain rfl := OI h; exact ⟨(by intro hh; cases hh), rfl, ⟨.inl rfl, [], by kernel_rfl⟩⟩
      · replace h := Au hb h; clear hb; refine Ai ?_; refine Ak ?_; refine Aa ?_; refine Kd ⟨[(0, (Ze a_l)), (1, (.int .i64 a_x)), (5, (.int .i64 (Bg (i1 + (1 : Int)))))], [], []⟩ hq ?_; obtain rfl := OI h; exact ⟨rfl, Le.refl _ _⟩
    · replace h := Au hb h; clear hb; refine A7 ?_; refine A2 ?_; obtain rfl := OI h; exact ⟨(by intro hh; cases hh), rfl, Fo [] [] hq⟩
  · clear hx3; rcases x3 with _ | r5
    · rintro e st' ⟨rfl, hl4⟩; refine Az ?_; refine Aa ?_; refine Af hl4 ?_; refine As ⟨[(4, (.bool false))], [], []⟩ hq ?_; refine Ar ?_; obtain rfl := OI h; exact ⟨.inl rfl, [], by kernel_rfl⟩
    · rintro e st' ⟨rfl, hk⟩; refine Bc ?_; refine A0 ?_; obtain rfl := OI h; exact hk
def Bp (a_g : An) (a_p2 : Int) (i6 : Int) : (Int × List (Bool)) → Option (LR (Int × List (Bool)) (List (Bool))) :=
  fun ((i9, l10) : (Int × List (Bool))) => (Cc (A4 i6 l10.length) (Cc (((l10.getD (i6).toNat false) == true) = true → (A4 i6 a_g.Succ.length)) (bif (bif (l10.getD (i6).toNat false) then (decide ((i9 : Int) < ((a_g.Succ.getD (i6).toNat []).length : Int))) else false) then (Option.bind (α := List (Bool)) (Cc (A4 i6 a_g.Succ.length) (Cc (A4 i9 (a_g.Succ.getD (i6).toNat []).length) (bif ((((a_g.Succ.getD (i6).toNat []).getD (i9).toNat (0 : Int)) : Int) != a_p2) then (Cc (A4 i6 a_g.Succ.length) (Cc (A4 i9 (a_g.Succ.getD (i6).toNat []).length) (Cc (A4 ((a_g.Succ.getD (i6).toNat []).getD (i9).toNat (0 : Int)) l10.length) (some ((l10.set (((a_g.Succ.getD (i6).toNat []).getD (i9).toNat (0 : Int))).toNat true)))))) else (some (l10))))) (fun x20 => ((some (.next ((Bg (i9 + (1 : Int))), x20)))))) else (some (.done l10)))))
def B0 (a_g : An) (a_p2 : Int) : (Int × List (Bool)) → Option (LR (Int × List (Bool)) (List (Bool))) :=
  fun ((i6, l7) : (Int × List (Bool))) => (bif (decide ((i6 : Int) < (l7.length : Int))) then ((At (S := (Int × List (Bool))) (X := List (Bool)) (Bp a_g a_p2 i6) ((0 : Int), l7)).bind (fun x22 => ((some (.next ((Bg (i6 + (1 : Int))), x22)))))) else (some (.done l7)))
def Bz (a_g : An) (a_p2 : Int) : (Int × List (Bool)) → Option (LR (Int × List (Bool)) (List (Bool))) :=
  fun ((i3, l4) : (Int × List (Bool))) => (bif (decide ((i3 : Int) < (l4.length : Int))) then ((At (S := (Int × List (Bool))) (X := List (Bool)) (B0 a_g a_p2) ((0 : Int), l4)).bind (fun x24 => ((some (.next ((Bg (i3 + (1 : Int))), x24)))))) else (some (.done l4)))
def Hl (a_p2 : Int) : AV := (.int .i64 a_p2)
def Ty (a_g : An) := (a_g.Succ.length : Int)
def K9 (a_g : An) := (List.replicate ((Ty a_g)).toNat false)
def Zn (a_g : An) (a_p1 : Int) := ((K9 a_g).set (a_p1).toNat true)
def M5 (l10 : List (Bool)) (i6 : Int) := ((l10.getD (i6).toNat false) == true)
def Z1 (a_g : An) := (fun i => eB ((K9 a_g).getD i false))
def Q302 (a_g : An) (i6 : Int) (i9 : Int) := ((a_g.Succ.getD (i6).toNat []).getD (i9).toNat (0 : Int))
def Jm (a_g : An) : List AV := [(AV.list 1 eLI64 [] a_g.Succ .none), (AV.list 1 eLI64 [] a_g.Pred .none)]
def Q304 (a_g : An) (l4 : List (Bool)) : List (Nat × Own) := [(3, .row 26 (Jm a_g)), (14, .arr 1 4 l4.length (fun i => eB (l4.getD i false)))]
def Q305 (a_g : An) (l7 : List (Bool)) : List (Nat × Own) := [(3, .row 26 (Jm a_g)), (14, .arr 1 4 l7.length (fun i => eB (l7.getD i false)))]
def Q303 (a_g : An) (l10 : List (Bool)) : List (Nat × Own) := [(3, .row 26 (Jm a_g)), (14, .arr 1 4 l10.length (fun i => eB (l10.getD i false)))]
def Q301 (a_p2 : Int) (l10 : List (Bool)) (i3 : Int) (i6 : Int) (i9 : Int) : List (Nat × AV) := [(2, (Hl a_p2)), (3, (.ptr 3 0)), (7, (.vsl 14 l10.length)), (8, (.int .i64 i3)), (9, (.int .i64 i6)), (10, (.int .i64 i9))]
def Da (a_g : An) (a_p1 : Int) (a_p2 : Int) : Option (List (Bool)) :=
  (Cc (0 ≤ (a_g.Succ.length : Int) ∧ (a_g.Succ.length : Int) ≤ (a_g.Succ.length : Int) ∧ (a_g.Succ.length : Int) ≤ (room : Int)) (bif ((a_p1 : Int) == a_p2) then (some (List.replicate ((a_g.Succ.length : Int)).toNat false)) else (Cc (A4 a_p1 (List.replicate ((a_g.Succ.length : Int)).toNat false).length) ((At (S := (Int × List (Bool))) (X := List (Bool)) (Bz a_g a_p2) ((0 : Int), ((List.replicate ((a_g.Succ.length : Int)).toNat false).set (a_p1).toNat true))).bind (fun x26 => ((some x26)))))))
theorem Gw (a_g : An) (a_p1 : Int) (a_p2 : Int) (r : List (Bool)) (h : Da a_g a_p1 a_p2 = some r) : Spec Try.prog 17 [(.agg (Bx a_g)), (.int .i64 a_p1), (.int .i64 a_p2)] [] (AV.list 1 eB false r (.own 20000)) [(20000, .tok 1 4 r.length)] := by
  refine Ap (fn := Try.f17) Try.func17 rfl rfl (by kernel_rfl) (fun Γ hn hΓ => ?_); have hq : RgQ Try.prog Γ 71 [] := ⟨hn, mix, hΓ⟩; unfold Da at h; refine B7 [] [(6, (AV.list 1 eB false ([] : List Bool) .exact))] ⟨[(1, (.int .i64 a_p1)), (2, (Hl a_p2)), (3, (.ptr 3 0))], [(3, .row 26 (Jm a_g))], []⟩ [(AVle (.slice 0 0 (fun _ => []) .exact) (AV.list 1 eB false ([] : List Bool) .exact))] hq ⟨Ea, trivial⟩ ?_; obtain ⟨hc1, h⟩ := Ab h; refine B7 [] [] ⟨[(1, (.int .i64 a_p1)), (2, (Hl a_p2)), (3, (.ptr 3 0)), (7, (.vsl 14 ((Ty a_g)).toNat))], [(3, .row 26 (Jm a_g)), (14, .arr 1 4 (((Ty a_g)).toNat) (fun i_ => AV.eraseAll (fun n_ => Cb n_ [3, 14]) ((fun _ => [(.bool false)]) i_)))], []⟩ [(0 ≤ (Ty a_g) ∧ (Ty a_g) ≤ (Ty a_g) ∧ (Ty a_g) ≤ (room : Int))] hq ⟨hc1, trivial⟩ ?_; refine Af (Le.trans (Cg (st' := ⟨[(1, (.int .i64 a_p1)), (2, (Hl a_p2)), (3, (.ptr 3 0)), (7, (.vsl 14 ((Ty a_g)).toNat))], [(3, .row 26 (Jm a_g)), (14, .arr 1 4 (((Ty a_g)).toNat) (Z1 a_g))], []⟩) (TmpsLe.refl _) (.same (.arr (fun k hk => Ms (e := eB) (d := false) (.cons (AVle.refl _) .nil) _ k (Mx hk)) .nil))) (B5 (congrArg (fun k_ : Nat => (⟨[(1, (.int .i64 a_p1)), (2, (Hl a_p2)), (3, (.ptr 3 0)), (7, (.vsl 14 k_))], [(3, .row 26 (Jm a_g)), (14, .arr 1 4 k_ (Z1 a_g))], []⟩ : St)) (show ((Ty a_g)).toNat = (K9 a_g).length from (List.length_replicate ..).symm)))) ?_; refine Ae ?_; refine As ⟨[(1, (.int .i64 a_p1)), (2, (Hl a_p2)), (3, (.ptr 3 0)), (7, (.vsl 14 (K9 a_g).length)), (17, (.bool ((a_p1 : Int) == a_p2)))], [(3, .row 26 (Jm a_g)), (14, .arr 1 4 ((K9 a_g).length) (Z1 a_g))], []⟩ hq ?_; refine Aj ((a_p1 : Int) == a_p2) (by kernel_rfl) (fun hb => ?_) (fun hb => ?_)
  · replace h := Ao hb h; clear hb; refine As ⟨[(6, (.vsl 14 (K9 a_g).length))], [(14, .arr 1 4 ((K9 a_g).length) (Z1 a_g))], []⟩ hq ?_; refine Af (Le.trans (F3 (nm := 14) (sz := 1) (n := ((K9 a_g).length)) (e := 4) (f := (Z1 a_g)) (g := (Z1 a_g)) rfl ⟨rfl, trivial⟩ (fun _ _ => rfl) (by rw [hΓ]; rfl)) (B5 (st' := ⟨[(6, (AV.list 1 eB false (K9 a_g) (.own 14)))], [(14, .tok 1 4 ((K9 a_g).length))], []⟩) (by kernel_rfl))) ?_; refine Ar ?_; refine A0 ?_; obtain rfl := OI h; exact ⟨.inl rfl, [(14, 20000)], by kernel_rfl⟩
  · replace h := Au hb h; clear hb; refine Ai ?_; refine Aa ?_; obtain ⟨hc2, h⟩ := Ab h; refine B7 [] [] ⟨[(2, (Hl a_p2)), (3, (.ptr 3 0)), (7, (.vsl 14 (K9 a_g).length))], [(3, .row 26 (Jm a_g)), (14, .arr 1 4 ((K9 a_g).length) (fun i_ => AV.eraseAll (fun n_ => Cb n_ [3, 14]) ((Ff (Z1 a_g) (a_p1).toNat 0 [(.bool true)]) i_)))], []⟩ [(A4 a_p1 (K9 a_g).length), ((K9 a_g).length = (K9 a_g).length)] hq ⟨hc2, rfl, trivial⟩ ?_; refine Af (Le.trans (Cg (st' := ⟨[(2, (Hl a_p2)), (3, (.ptr 3 0)), (7, (.vsl 14 (K9 a_g).length))], [(3, .row 26 (Jm a_g)), (14, .arr 1 4 ((K9 a_g).length) (fun i => eB ((Zn a_g a_p1).getD i false)))], []⟩) (TmpsLe.refl _) (.same (.arr (Be (List.length_set ..).symm (fun k_ hk_ => (congrArg (AV.eraseAll (fun n_ => Cb n_ [3, 14])) ((Gc (fun _ _ => rfl) (G0 hc2) rfl) k_ hk_)).trans rfl)) .nil))) (B5 (congrArg (fun k_ : Nat => (⟨[(2, (Hl a_p2)), (3, (.ptr 3 0)), (7, (.vsl 14 k_))], [(3, .row 26 (Jm a_g)), (14, .arr 1 4 k_ (fun i => eB ((Zn a_g a_p1).getD i false)))], []⟩ : St)) (show (K9 a_g).length = (Zn a_g a_p1).length from (List.length_set ..).symm)))) ?_; refine Ae ?_; refine As ⟨[(2, (Hl a_p2)), (3, (.ptr 3 0)), (7, (.vsl 14 (Zn a_g a_p1).length)), (8, (.int .i64 (0 : Int)))], [(3, .row 26 (Jm a_g)), (14, .arr 1 4 ((Zn a_g a_p1).length) (fun i => eB ((Zn a_g a_p1).getD i false)))], []⟩ hq ?_; refine Ah ?_; refine Af (st' := (fun ((i3, l4) : (Int × List (Bool))) => (⟨[(2, (Hl a_p2)), (3, (.ptr 3 0)), (7, (.vsl 14 l4.length)), (8, (.int .i64 i3))], (Q304 a_g l4), []⟩ : St)) ((0 : Int), (Zn a_g a_p1))) (Le.refl _ _) ?_; obtain ⟨x26, hx26, h⟩ := bind_some h; refine A8 (fun ((i3, l4) : (Int × List (Bool))) => (⟨[(2, (Hl a_p2)), (3, (.ptr 3 0)), (7, (.vsl 14 l4.length)), (8, (.int .i64 i3))], (Q304 a_g l4), []⟩ : St)) _ (fun (l5 : List (Bool)) (e : Exit) (st : St) => e = (.exit 0) ∧ Le Γ st (⟨[(7, (.vsl 14 l5.length))], [(14, .arr 1 4 l5.length (fun i => eB (l5.getD i false)))], []⟩ : St)) ?_ hx26 ?_
    · rintro ⟨i3, l4⟩ y h; unfold Bz at h; refine Ae ?_; refine As ⟨[(2, (Hl a_p2)), (3, (.ptr 3 0)), (7, (.vsl 14 l4.length)), (8, (.int .i64 i3)), (25, (.bool (decide ((i3 : Int) < (l4.length : Int)))))], (Q304 a_g l4), []⟩ hq ?_; refine Aj (decide ((i3 : Int) < (l4.length : Int))) (by kernel_rfl) (fun hb => ?_) (fun hb => ?_)
      · replace h := Ao hb h; clear hb; refine Ai ?_; refine Aa ?_; refine Ae ?_; refine Ah ?_; refine As ⟨[(2, (Hl a_p2)), (3, (.ptr 3 0)), (7, (.vsl 14 l4.length)), (8, (.int .i64 i3)), (9, (.int .i64 (0 : Int)))], (Q304 a_g l4), []⟩ hq ?_; refine Ah ?_; refine Af (st' := (fun ((i6, l7) : (Int × List (Bool))) => (⟨[(2, (Hl a_p2)), (3, (.ptr 3 0)), (7, (.vsl 14 l7.length)), (8, (.int .i64 i3)), (9, (.int .i64 i6))], (Q305 a_g l7), []⟩ : St)) ((0 : Int), l4)) (Le.refl _ _) ?_; obtain ⟨x24, hx24, h⟩ := bind_some h; refine A8 (fun ((i6, l7) : (Int × List (Bool))) => (⟨[(2, (Hl a_p2)), (3, (.ptr 3 0)), (7, (.vsl 14 l7.length)), (8, (.int .i64 i3)), (9, (.int .i64 i6))], (Q305 a_g l7), []⟩ : St)) _ (fun (l8 : List (Bool)) (e : Exit) (st : St) => e = (.exit 2) ∧ Le Γ st (⟨[(2, (Hl a_p2)), (3, (.ptr 3 0)), (7, (.vsl 14 l8.length)), (8, (.int .i64 i3))], [(3, .row 26 (Jm a_g)), (14, .arr 1 4 l8.length (fun i => eB (l8.getD i false)))], []⟩ : St)) ?_ hx24 ?_
        · rintro ⟨i6, l7⟩ y h; unfold B0 at h; refine Ae ?_; refine As ⟨[(2, (Hl a_p2)), (3, (.ptr 3 0)), (7, (.vsl 14 l7.length)), (8, (.int .i64 i3)), (9, (.int .i64 i6)), (31, (.bool (decide ((i6 : Int) < (l7.length : Int)))))], (Q305 a_g l7), []⟩ hq ?_; refine Aj (decide ((i6 : Int) < (l7.length : Int))) (by kernel_rfl) (fun hb => ?_) (fun hb => ?_)
          · replace h := Ao hb h; clear hb; refine Ai ?_; refine Aa ?_; refine Ae ?_; refine Ah ?_; refine As ⟨[(2, (Hl a_p2)), (3, (.ptr 3 0)), (7, (.vsl 14 l7.length)), (8, (.int .i64 i3)), (9, (.int .i64 i6)), (10, (.int .i64 (0 : Int)))], (Q305 a_g l7), []⟩ hq ?_; refine Ah ?_; refine Af (st' := (fun ((i9, l10) : (Int × List (Bool))) => (⟨(Q301 a_p2 l10 i3 i6 i9), (Q303 a_g l10), []⟩ : St)) ((0 : Int), l7)) (Le.refl _ _) ?_; obtain ⟨x22, hx22, h⟩ := bind_some h; refine A8 (fun ((i9, l10) : (Int × List (Bool))) => (⟨(Q301 a_p2 l10 i3 i6 i9), (Q303 a_g l10), []⟩ : St)) _ (fun (l11 : List (Bool)) (e : Exit) (st : St) => e = (.exit 4) ∧ Le Γ st (⟨[(2, (Hl a_p2)), (3, (.ptr 3 0)), (7, (.vsl 14 l11.length)), (8, (.int .i64 i3)), (9, (.int .i64 i6))], [(3, .row 26 (Jm a_g)), (14, .arr 1 4 l11.length (fun i => eB (l11.getD i false)))], []⟩ : St)) ?_ hx22 ?_
            · rintro ⟨i9, l10⟩ y h; unfold Bp at h; refine Ae ?_; obtain ⟨hc12, h⟩ := Ab h; obtain ⟨hc13, h⟩ := Ab h; refine B7 [] [] ⟨[(2, (Hl a_p2)), (3, (.ptr 3 0)), (7, (.vsl 14 l10.length)), (8, (.int .i64 i3)), (9, (.int .i64 i6)), (10, (.int .i64 i9)), (47, (.bool (bif (l10.getD (i6).toNat false) then (decide ((i9 : Int) < ((a_g.Succ.getD (i6).toNat []).length : Int))) else false)))], (Q303 a_g l10), []⟩ [(A4 i6 l10.length), (l10.length = l10.length), ((M5 l10 i6) = true → (M5 l10 i6) = true), ((M5 l10 i6) = true → (M5 l10 i6) = true), ((M5 l10 i6) = true → (M5 l10 i6) = true), ((M5 l10 i6) = true → (A4 i6 a_g.Succ.length)), ((M5 l10 i6) = true → (M5 l10 i6) = true), ((M5 l10 i6) = true → (M5 l10 i6) = true), ((M5 l10 i6) = true → (M5 l10 i6) = true), ((M5 l10 i6) = true → (M5 l10 i6) = true), ((l10.getD (i6).toNat false) = true → (M5 l10 i6) = true)] hq ⟨hc12, rfl, (fun hg => hg), (fun hg => hg), (fun hg => hg), (fun hg => (hc13 hg)), (fun hg => hg), (fun hg => hg), (fun hg => hg), (fun hg => hg), gT, trivial⟩ ?_; refine Aj (bif (l10.getD (i6).toNat false) then (decide ((i9 : Int) < ((a_g.Succ.getD (i6).toNat []).length : Int))) else false) (by kernel_rfl) (fun hb => ?_) (fun hb => ?_)
              · replace h := Ao hb h; clear hb; refine Ai ?_; refine Aa ?_; refine Ae ?_; obtain ⟨x20, hx20, h⟩ := bind_some h; refine Ex (fun (l14 : List (Bool)) (e : Exit) (st : St) => e = .normal ∧ Le Γ st (⟨[(2, (Hl a_p2)), (3, (.ptr 3 0)), (7, (.vsl 14 l14.length)), (8, (.int .i64 i3)), (9, (.int .i64 i6)), (10, (.int .i64 i9))], [(3, .row 26 (Jm a_g)), (14, .arr 1 4 l14.length (fun i => eB (l14.getD i false)))], []⟩ : St)) hx20 ?_ ?_
                · clear h hx20; intro y h; refine Ah ?_; obtain ⟨hc15, h⟩ := Ab h; obtain ⟨hc16, h⟩ := Ab h; refine B7 [] [] ⟨[(2, (Hl a_p2)), (3, (.ptr 3 0)), (7, (.vsl 14 l10.length)), (8, (.int .i64 i3)), (9, (.int .i64 i6)), (10, (.int .i64 i9)), (59, (.bool (((Q302 a_g i6 i9) : Int) != a_p2)))], (Q303 a_g l10), []⟩ [(A4 i6 a_g.Succ.length), (A4 i9 (a_g.Succ.getD (i6).toNat []).length)] hq ⟨hc15, hc16, trivial⟩ ?_; refine Aj (((Q302 a_g i6 i9) : Int) != a_p2) (by kernel_rfl) (fun hb => ?_) (fun hb => ?_)
                  · replace h := Ao hb h; clear hb; obtain ⟨hc17, h⟩ := Ab h; obtain ⟨hc18, h⟩ := Ab h; obtain ⟨hc19, h⟩ := Ab h; refine rg [] [] ⟨(Q301 a_p2 l10 i3 i6 i9), [(3, .row 26 (Jm a_g)), (14, .arr 1 4 l10.length (fun i_ => AV.eraseAll (fun n_ => Cb n_ [3, 14]) ((Ff (fun i => eB (l10.getD i false)) ((Q302 a_g i6 i9)).toNat 0 [(.bool true)]) i_)))], []⟩ [(A4 i6 a_g.Succ.length), (A4 i9 (a_g.Succ.getD (i6).toNat []).length), (A4 (Q302 a_g i6 i9) l10.length), (l10.length = l10.length)] hq ⟨hc17, hc18, hc19, rfl, trivial⟩ ?_; refine Ak ?_; obtain rfl := OI h; exact ⟨rfl, Le.trans (Le.trans (Cg (st' := ⟨(Q301 a_p2 l10 i3 i6 i9), [(3, .row 26 (Jm a_g)), (14, .arr 1 4 l10.length (fun i => eB ((l10.set ((Q302 a_g i6 i9)).toNat true).getD i false)))], []⟩) (TmpsLe.refl _) (.same (.arr (Be (List.length_set ..).symm (fun k_ hk_ => (congrArg (AV.eraseAll (fun n_ => Cb n_ [3, 14])) ((Gc (fun _ _ => rfl) (G0 hc19) rfl) k_ hk_)).trans rfl)) .nil))) (B5 (congrArg (fun k_ : Nat => (⟨[(2, (Hl a_p2)), (3, (.ptr 3 0)), (7, (.vsl 14 k_)), (8, (.int .i64 i3)), (9, (.int .i64 i6)), (10, (.int .i64 i9))], [(3, .row 26 (Jm a_g)), (14, .arr 1 4 k_ (fun i => eB ((l10.set ((Q302 a_g i6 i9)).toNat true).getD i false)))], []⟩ : St)) (show l10.length = (l10.set ((Q302 a_g i6 i9)).toNat true).length from (List.length_set ..).symm)))) (Le.refl _ _)⟩
                  · replace h := Au hb h; clear hb; refine Ai ?_; refine Ak ?_; obtain rfl := OI h; exact ⟨rfl, Fo [2, 3, 7, 8, 9, 10] [3, 14] hq⟩
                · clear hx20; rintro e st' ⟨rfl, hl21⟩; refine Aa ?_; refine Af hl21 ?_; refine Kd ⟨[(2, (Hl a_p2)), (3, (.ptr 3 0)), (7, (.vsl 14 x20.length)), (8, (.int .i64 i3)), (9, (.int .i64 i6)), (10, (.int .i64 (Bg (i9 + (1 : Int)))))], [(3, .row 26 (Jm a_g)), (14, .arr 1 4 x20.length (fun i => eB (x20.getD i false)))], []⟩ hq ?_; obtain rfl := OI h; exact ⟨rfl, Le.refl _ _⟩
              · replace h := Au hb h; clear hb; refine A7 ?_; refine A2 ?_; obtain rfl := OI h; exact ⟨(by intro hh; cases hh), rfl, Fo [2, 3, 7, 8, 9] [3, 14] hq⟩
            · clear hx22; rintro e st' ⟨rfl, hl23⟩; refine Az ?_; refine Ak ?_; refine Aa ?_; refine Af hl23 ?_; refine Kd ⟨[(2, (Hl a_p2)), (3, (.ptr 3 0)), (7, (.vsl 14 x22.length)), (8, (.int .i64 i3)), (9, (.int .i64 (Bg (i6 + (1 : Int)))))], [(3, .row 26 (Jm a_g)), (14, .arr 1 4 x22.length (fun i => eB (x22.getD i false)))], []⟩ hq ?_; obtain rfl := OI h; exact ⟨rfl, Le.refl _ _⟩
          · replace h := Au hb h; clear hb; refine A7 ?_; refine A2 ?_; obtain rfl := OI h; exact ⟨(by intro hh; cases hh), rfl, Fo [2, 3, 7, 8] [3, 14] hq⟩
        · clear hx24; rintro e st' ⟨rfl, hl25⟩; refine Az ?_; refine Ak ?_; refine Aa ?_; refine Af hl25 ?_; refine Kd ⟨[(2, (Hl a_p2)), (3, (.ptr 3 0)), (7, (.vsl 14 x24.length)), (8, (.int .i64 (Bg (i3 + (1 : Int)))))], [(3, .row 26 (Jm a_g)), (14, .arr 1 4 x24.length (fun i => eB (x24.getD i false)))], []⟩ hq ?_; obtain rfl := OI h; exact ⟨rfl, Le.refl _ _⟩
      · replace h := Au hb h; clear hb; refine A7 ?_; refine A2 ?_; obtain rfl := OI h; exact ⟨(by intro hh; cases hh), rfl, Fo [7] [14] hq⟩
    · clear hx26; rintro e st' ⟨rfl, hl27⟩; refine Az ?_; refine Aa ?_; refine Af hl27 ?_; refine As ⟨[(6, (.vsl 14 x26.length))], [(14, .arr 1 4 x26.length (fun i => eB (x26.getD i false)))], []⟩ hq ?_; refine Af (Le.trans (F3 (nm := 14) (sz := 1) (n := x26.length) (e := 4) (f := (fun i => eB (x26.getD i false))) (g := (fun i => eB (x26.getD i false))) rfl ⟨rfl, trivial⟩ (fun _ _ => rfl) (by rw [hΓ]; rfl)) (B5 (st' := ⟨[(6, (AV.list 1 eB false x26 (.own 14)))], [(14, .tok 1 4 x26.length)], []⟩) (by kernel_rfl))) ?_; refine Ar ?_; obtain rfl := OI h; exact ⟨.inl rfl, [(14, 20000)], by kernel_rfl⟩
def Md (x1 : List (Bool)) (a_b : Int) := ((x1.getD (a_b).toNat false) == true)
def Di (a_g : An) (a_root : Int) (a_a : Int) (a_b : Int) : Option Bool :=
  ((Da a_g a_root (-1 : Int)).bind fun x1 => (Cc (A4 a_b x1.length) ((bif ((x1.getD (a_b).toNat false) == true) then Da a_g a_root a_a else some []).bind fun x3 => (Cc (((x1.getD (a_b).toNat false) == true) = true → (A4 a_b x3.length)) (some (bif (x1.getD (a_b).toNat false) then (!(x3.getD (a_b).toNat false)) else false))))))
theorem K6 (a_g : An) (a_root : Int) (a_a : Int) (a_b : Int) (r : Bool) (h : Di a_g a_root a_a a_b = some r) : Spec Try.prog 15 [(.agg (Bx a_g)), (.int .i64 a_root), (.int .i64 a_a), (.int .i64 a_b)] [] (.bool r) [] := by
  refine Ap (fn := Try.f15) Try.func15 rfl rfl (by kernel_rfl) (fun Γ hn hΓ => ?_); have hq : RgQ Try.prog Γ 25 [] := ⟨hn, mix, hΓ⟩; unfold Di at h; refine As ⟨[(1, (.int .i64 a_root)), (2, (.int .i64 a_a)), (3, (.int .i64 a_b)), (4, (.ptr 4 0))], [(4, .row 26 [(AV.list 1 eLI64 [] a_g.Succ .none), (AV.list 1 eLI64 [] a_g.Pred .none)])], []⟩ hq ?_; obtain ⟨x1, hx1, h⟩ := bind_some h; obtain ⟨hc2, h⟩ := Ab h; obtain ⟨x3, hx3, h⟩ := bind_some h; obtain ⟨hc4, h⟩ := Ab h; refine B7 [⟨[], [(20000, 11)], (AV.list 1 eB false x1 (.own 20000)), [(20000, .tok 1 4 x1.length)], []⟩, ⟨[], [], (AV.list 1 eB false x3 .none), [], []⟩] [] ⟨[(8, (.bool (bif (x1.getD (a_b).toNat false) then (!(x3.getD (a_b).toNat false)) else false)))], [], []⟩ [(Spec Try.prog 17 [(.agg (Bx a_g)), (.int .i64 a_root), (.int .i64 (-1 : Int))] [] (AV.list 1 eB false x1 (.own 20000)) [(20000, .tok 1 4 x1.length)]), (A4 a_b x1.length), ((Md x1 a_b) = true → (Md x1 a_b) = true), ((Md x1 a_b) = true → (Md x1 a_b) = true), ((Md x1 a_b) = true → (Md x1 a_b) = true), ((Md x1 a_b) = true → (Spec Try.prog 17 [(.agg (Bx a_g)), (.int .i64 a_root), (.int .i64 a_a)] [] (AV.list 1 eB false x3 .none) [])), ((Md x1 a_b) = true → (Md x1 a_b) = true), ((Md x1 a_b) = true → (Md x1 a_b) = true), ((Md x1 a_b) = true → (A4 a_b x3.length)), ((Md x1 a_b) = true → (Md x1 a_b) = true), ((Md x1 a_b) = true → (Md x1 a_b) = true), ((x1.getD (a_b).toNat false) = true → (Md x1 a_b) = true)] hq ⟨(Gw a_g a_root (-1 : Int) x1 hx1), hc2, (fun hg => hg), (fun hg => hg), (fun hg => hg), (fun hg => (Spec.drop (Gw a_g a_root a_a x3 (Ao hg hx3)))), (fun hg => hg), (fun hg => hg), (fun hg => (hc4 hg)), (fun hg => hg), (fun hg => hg), gT, trivial⟩ ?_; refine Ar ?_; obtain rfl := OI h; exact ⟨.inl rfl, [], by kernel_rfl⟩
end
end Go.Proofs.Ytjpacggpipflcaa

namespace Go.Proofs.Ytjpacggpipflcaa
noncomputable section
open Go Go.RowKit
set_option linter.unusedVariables false
set_option maxRecDepth 100000
set_option maxHeartbeats 2000000
def Bl (x3 : (An × Int)) (x6 : List (Ax)) (i7 : Int) : Int → Option (LR Int (Unit ⊕ Bool)) :=
  fun (i11 : Int) => (Cc (A4 i7 x6.length) (bif (decide ((i11 : Int) < (((x6.getD (i7).toNat (default : Ax)).Body).length : Int))) then (Cc (A4 i7 x6.length) (Cc (A4 i7 x6.length) (Cc (A4 i11 ((x6.getD (i7).toNat (default : Ax)).Body).length) ((Di x3.1 (0 : Int) ((x6.getD (i7).toNat (default : Ax)).Head) (((x6.getD (i7).toNat (default : Ax)).Body).getD (i11).toNat (0 : Int))).bind fun x16 => (bif (!x16) then (some (.done (.inr false))) else (some (.next (Bg (i11 + (1 : Int)))))))))) else (some (.done (.inl ())))))
def Bm (x6 : List (Ax)) (i7 : Int) (i19 : Int) : (Int × Int) → Option (LR (Int × Int) Int) :=
  fun ((i21, i22) : (Int × Int)) => (Cc (A4 i7 x6.length) (bif (decide ((i22 : Int) < (((x6.getD (i7).toNat (default : Ax)).Body).length : Int))) then (Option.bind (α := Int) (Cc (A4 i19 x6.length) (Cc (A4 i7 x6.length) (Cc (A4 i22 ((x6.getD (i7).toNat (default : Ax)).Body).length) ((C2 ((x6.getD (i19).toNat (default : Ax)).Body) (((x6.getD (i7).toNat (default : Ax)).Body).getD (i22).toNat (0 : Int))).bind fun x29 => (bif x29 then (some ((Bg (i21 + (1 : Int))))) else (some (i21))))))) (fun x30 => ((some (.next (x30, (Bg (i22 + (1 : Int))))))))) else (some (.done i21))))
def A9 (x3 : (An × Int)) (x6 : List (Ax)) (i7 : Int) : Int → Option (LR Int (Unit ⊕ Bool)) :=
  fun (i19 : Int) => ((bif ((decide ((i19 : Int) < i7)) == true) then Dh x3.1 else some false).bind fun x20 => (bif (bif (decide ((i19 : Int) < i7)) then x20 else false) then ((At (S := (Int × Int)) (X := Int) (Bm x6 i7 i19) ((0 : Int), (0 : Int))).bind (fun x32 => ((Cc ((((x32 : Int) != (0 : Int)) == true) = true → (A4 i7 x6.length)) (Cc (((bif ((x32 : Int) != (0 : Int)) then ((x32 : Int) != (((x6.getD (i7).toNat (default : Ax)).Body).length : Int)) else false) == true) = true → (A4 i19 x6.length)) (bif (bif (bif ((x32 : Int) != (0 : Int)) then ((x32 : Int) != (((x6.getD (i7).toNat (default : Ax)).Body).length : Int)) else false) then ((x32 : Int) != (((x6.getD (i19).toNat (default : Ax)).Body).length : Int)) else false) then (some (.done (.inr false))) else (some (.next (Bg (i19 + (1 : Int))))))))))) else (some (.done (.inl ())))))
def Bk (x3 : (An × Int)) (x6 : List (Ax)) : Int → Option (LR Int (Unit ⊕ Bool)) :=
  fun (i7 : Int) => (bif (decide ((i7 : Int) < (x6.length : Int))) then (Cc (A4 i7 x6.length) (Cc (A4 i7 x6.length) ((C2 ((x6.getD (i7).toNat (default : Ax)).Body) ((x6.getD (i7).toNat (default : Ax)).Head)).bind fun x10 => (bif (!x10) then (some (.done (.inr false))) else ((At (S := Int) (X := (Unit ⊕ Bool)) (Bl x3 x6 i7) (0 : Int)).bind (fun x17 => (match x17 with | (.inl _) => ((At (S := Int) (X := (Unit ⊕ Bool)) (A9 x3 x6 i7) (0 : Int)).bind (fun x36 => (match x36 with | (.inl _) => (some (.next (Bg (i7 + (1 : Int))))) | (.inr r38) => (some (.done (.inr r38)))))) | (.inr r39) => (some (.done (.inr r39)))))))))) else (some (.done (.inl ()))))
def L6 (x6 : List (Ax)) (i7 : Int) := (x6.getD (i7).toNat (default : Ax))
def Q379 (x32 : Int) (x6 : List (Ax)) (i7 : Int) := (bif ((x32 : Int) != (0 : Int)) then ((x32 : Int) != (((L6 x6 i7).Body).length : Int)) else false)
def M4 (x32 : Int) (x6 : List (Ax)) (i7 : Int) := ((Q379 x32 x6 i7) == true)
def Mz (x32 : Int) := (((x32 : Int) != (0 : Int)) == true)
def W6 (x4 : List (Ax)) := (((x4.length : Int) : Int) == (0 : Int))
def G9 (x6 : List (Ax)) : AV := (AV.list 2 Dr (default : Ax) x6 (.own 38))
def Vr (a_succ : List (List (Int))) := (decide (((12 : Int) : Int) < (a_succ.length : Int)))
def G8 (x3 : (An × Int)) (x6 : List (Ax)) : List (Nat × Own) := [(3, .row 26 [(AV.list 1 eLI64 [] x3.1.Succ .none), (AV.list 1 eLI64 [] x3.1.Pred .none)]), (38, .tok 2 38 x6.length)]
def Q386 (x6 : List (Ax)) (i7 : Int) (x3 : (An × Int)) := (⟨[(3, (.ptr 3 0)), (5, (G9 x6)), (6, (.int .i64 i7))], (G8 x3 x6), []⟩ : St)
def Dz (a_succ : List (List (Int))) : Option Bool :=
  ((D1).bind fun x1 => (bif (!x1) then (some false) else ((bif ((decide (((12 : Int) : Int) < (a_succ.length : Int))) == false) then D0 a_succ else some false).bind fun x2 => (bif (bif (decide (((12 : Int) : Int) < (a_succ.length : Int))) then true else (!x2)) then (some true) else ((Ey a_succ).bind fun x3 => (bif ((x3.2 : Int) != (0 : Int)) then ((Fc x3.1).bind fun x4 => ((bif ((((x4.length : Int) : Int) == (0 : Int)) == true) then Dh x3.1 else some false).bind fun x5 => (some (bif (((x4.length : Int) : Int) == (0 : Int)) then (!x5) else false)))) else ((Fc x3.1).bind fun x6 => ((At (S := Int) (X := (Unit ⊕ Bool)) (Bk x3 x6) (0 : Int)).bind (fun x40 => (match x40 with | (.inl _) => (some true) | (.inr r42) => (some r42)))))))))))
theorem ok_locksteplaw10_LoopHeads (a_succ : List (List (Int))) (r : Bool) (h : Dz a_succ = some r) : Spec Try.prog 4 [(AV.list 1 eLI64 [] a_succ .none)] [] (.bool r) [] := by
  refine Ap (fn := Try.f4) Try.func4 rfl rfl (by kernel_rfl) (fun Γ hn hΓ => ?_); have hq : RgQ Try.prog Γ 140 [] := ⟨hn, mix, hΓ⟩; unfold Dz at h; refine As ⟨[(0, (AV.list 1 eLI64 [] a_succ .none))], [], []⟩ hq ?_; refine Ae ?_; obtain ⟨x1, hx1, h⟩ := bind_some h; refine B7 [⟨[], [], (.bool x1), [], []⟩] [] ⟨[(0, (AV.list 1 eLI64 [] a_succ .none)), (12, (.bool (!x1)))], [], []⟩ [(Spec Try.prog 8 [] [] (.bool x1) [])] hq ⟨(Kj  x1 hx1), trivial⟩ ?_; refine Aj (!x1) (by kernel_rfl) (fun hb => ?_) (fun hb => ?_)
  · replace h := Ao hb h; clear hb; refine As ⟨[(2, (.bool false))], [], []⟩ hq ?_; refine Ar ?_; refine A0 ?_; obtain rfl := OI h; exact ⟨.inl rfl, [], by kernel_rfl⟩
  · replace h := Au hb h; clear hb; refine Ai ?_; refine Aa ?_; refine Ae ?_; obtain ⟨x2, hx2, h⟩ := bind_some h; refine B7 [⟨[], [], (.bool x2), [], []⟩] [] ⟨[(0, (AV.list 1 eLI64 [] a_succ .none)), (20, (.bool (bif (Vr a_succ) then true else (!x2))))], [], []⟩ [(((Vr a_succ) == false) = true → ((Vr a_succ) == false) = true), (((Vr a_succ) == false) = true → (Spec Try.prog 9 [(AV.list 1 eLI64 [] a_succ .none)] [] (.bool x2) [])), (((Vr a_succ) == false) = true → ((Vr a_succ) == false) = true), ((Vr a_succ) = false → ((Vr a_succ) == false) = true)] hq ⟨(fun hg => hg), (fun hg => (Kn a_succ x2 (Ao hg hx2))), (fun hg => hg), gF, trivial⟩ ?_; refine Aj (bif (Vr a_succ) then true else (!x2)) (by kernel_rfl) (fun hb => ?_) (fun hb => ?_)
    · replace h := Ao hb h; clear hb; refine As ⟨[(2, (.bool true))], [], []⟩ hq ?_; refine Ar ?_; refine A0 ?_; obtain rfl := OI h; exact ⟨.inl rfl, [], by kernel_rfl⟩
    · replace h := Au hb h; clear hb; refine Ai ?_; refine Aa ?_; obtain ⟨x3, hx3, h⟩ := bind_some h; refine B7 [⟨[], [], (.tuple [(.agg (Bx x3.1)), (.int .i64 x3.2)]), [], []⟩] [] ⟨[(3, (.ptr 3 0)), (4, (.int .i64 x3.2))], [(3, .row 26 [(AV.list 1 eLI64 [] x3.1.Succ .none), (AV.list 1 eLI64 [] x3.1.Pred .none)])], []⟩ [(Spec Try.prog 10 [(AV.list 1 eLI64 [] a_succ .none)] [] (.tuple [(.agg (Bx x3.1)), (.int .i64 x3.2)]) [])] hq ⟨(Ji a_succ x3 hx3), trivial⟩ ?_; refine Ae ?_; refine As ⟨[(3, (.ptr 3 0)), (27, (.bool ((x3.2 : Int) != (0 : Int))))], [(3, .row 26 [(AV.list 1 eLI64 [] x3.1.Succ .none), (AV.list 1 eLI64 [] x3.1.Pred .none)])], []⟩ hq ?_; refine Aj ((x3.2 : Int) != (0 : Int)) (by kernel_rfl) (fun hb => ?_) (fun hb => ?_)
      · replace h := Ao hb h; clear hb; obtain ⟨x4, hx4, h⟩ := bind_some h; obtain ⟨x5, hx5, h⟩ := bind_some h; refine B7 [⟨[], [(20000, 29)], (AV.list 2 Dr (default : Ax) x4 (.own 20000)), [(20000, .tok 2 38 x4.length)], []⟩, ⟨[], [], (.bool x5), [], []⟩] [] ⟨[(2, (.bool (bif (W6 x4) then (!x5) else false)))], [], []⟩ [(Spec Try.prog 12 [(.agg (Bx x3.1))] [] (AV.list 2 Dr (default : Ax) x4 (.own 20000)) [(20000, .tok 2 38 x4.length)]), (((W6 x4) == true) = true → ((W6 x4) == true) = true), (((W6 x4) == true) = true → (Spec Try.prog 13 [(.agg (Bx x3.1))] [] (.bool x5) [])), (((W6 x4) == true) = true → ((W6 x4) == true) = true), ((W6 x4) = true → ((W6 x4) == true) = true)] hq ⟨(Je x3.1 x4 hx4), (fun hg => hg), (fun hg => (G6 x3.1 x5 (Ao hg hx5))), (fun hg => hg), gT, trivial⟩ ?_; refine Ar ?_; refine A0 ?_; obtain rfl := OI h; exact ⟨.inl rfl, [], by kernel_rfl⟩
      · replace h := Au hb h; clear hb; refine Ai ?_; refine Aa ?_; obtain ⟨x6, hx6, h⟩ := bind_some h; refine B7 [⟨[], [(20000, 38)], (AV.list 2 Dr (default : Ax) x6 (.own 20000)), [(20000, .tok 2 38 x6.length)], []⟩] [] ⟨[(3, (.ptr 3 0)), (5, (G9 x6))], (G8 x3 x6), []⟩ [(Spec Try.prog 12 [(.agg (Bx x3.1))] [] (AV.list 2 Dr (default : Ax) x6 (.own 20000)) [(20000, .tok 2 38 x6.length)])] hq ⟨(Je x3.1 x6 hx6), trivial⟩ ?_; refine Ae ?_; refine As ⟨[(3, (.ptr 3 0)), (5, (G9 x6)), (6, (.int .i64 (0 : Int)))], (G8 x3 x6), []⟩ hq ?_; refine Ah ?_; refine Af (st' := (fun (i7 : Int) => (Q386 x6 i7 x3)) (0 : Int)) (Le.refl _ _) ?_; obtain ⟨x40, hx40, h⟩ := bind_some h; refine A8 (fun (i7 : Int) => (Q386 x6 i7 x3)) _ (fun (x_ : (Unit ⊕ Bool)) (e : Exit) (st : St) => match x_ with | (.inl _) => e = (.exit 0) ∧ Le Γ st (⟨[], [], []⟩ : St) | (.inr r_) => e = .ret ∧ Jv Try.prog Try.f4.results.toList [] (.bool r_) [] e st) ?_ hx40 ?_
        · intro i7 y h; unfold Bk at h; refine Ae ?_; refine As ⟨[(3, (.ptr 3 0)), (5, (G9 x6)), (6, (.int .i64 i7)), (42, (.bool (decide ((i7 : Int) < (x6.length : Int)))))], (G8 x3 x6), []⟩ hq ?_; refine Aj (decide ((i7 : Int) < (x6.length : Int))) (by kernel_rfl) (fun hb => ?_) (fun hb => ?_)
          · replace h := Ao hb h; clear hb; refine Ai ?_; refine Aa ?_; refine Ae ?_; refine Ah ?_; refine Ae ?_; obtain ⟨hc8, h⟩ := Ab h; obtain ⟨hc9, h⟩ := Ab h; obtain ⟨x10, hx10, h⟩ := bind_some h; refine B7 [⟨[], [], (.bool x10), [], []⟩] [] ⟨[(3, (.ptr 3 0)), (5, (G9 x6)), (6, (.int .i64 i7)), (56, (.bool (!x10)))], (G8 x3 x6), []⟩ [(A4 i7 x6.length), (A4 i7 x6.length), (Spec Try.prog 14 [(AV.list 1 Ad (0 : Int) (L6 x6 i7).Body .none), (.int .i64 (L6 x6 i7).Head)] [] (.bool x10) [])] hq ⟨hc8, hc9, (Hx ((L6 x6 i7).Body) ((L6 x6 i7).Head) x10 hx10), trivial⟩ ?_; refine Aj (!x10) (by kernel_rfl) (fun hb => ?_) (fun hb => ?_)
            · replace h := Ao hb h; clear hb; refine As ⟨[(2, (.bool false))], [], []⟩ hq ?_; refine Ar ?_; refine A0 ?_; refine Bc ?_; refine A0 ?_; obtain rfl := OI h; exact ⟨(by intro hh; cases hh), rfl, ⟨.inl rfl, [], by kernel_rfl⟩⟩
            · replace h := Au hb h; clear hb; refine Ai ?_; refine Aa ?_; refine Ae ?_; refine As ⟨[(3, (.ptr 3 0)), (5, (G9 x6)), (6, (.int .i64 i7)), (7, (.int .i64 (0 : Int)))], (G8 x3 x6), []⟩ hq ?_; refine Ah ?_; refine Af (st' := (fun (i11 : Int) => (⟨[(3, (.ptr 3 0)), (5, (G9 x6)), (6, (.int .i64 i7)), (7, (.int .i64 i11))], (G8 x3 x6), []⟩ : St)) (0 : Int)) (Le.refl _ _) ?_; obtain ⟨x17, hx17, h⟩ := bind_some h; refine A8 (fun (i11 : Int) => (⟨[(3, (.ptr 3 0)), (5, (G9 x6)), (6, (.int .i64 i7)), (7, (.int .i64 i11))], (G8 x3 x6), []⟩ : St)) _ (fun (x_ : (Unit ⊕ Bool)) (e : Exit) (st : St) => match x_ with | (.inl _) => e = (.exit 2) ∧ Le Γ st (Q386 x6 i7 x3) | (.inr r_) => e = .ret ∧ Jv Try.prog Try.f4.results.toList [] (.bool r_) [] e st) ?_ hx17 ?_
              · intro i11 y h; unfold Bl at h; refine Ae ?_; obtain ⟨hc12, h⟩ := Ab h; refine B7 [] [] ⟨[(3, (.ptr 3 0)), (5, (G9 x6)), (6, (.int .i64 i7)), (7, (.int .i64 i11)), (64, (.bool (decide ((i11 : Int) < (((L6 x6 i7).Body).length : Int)))))], (G8 x3 x6), []⟩ [(A4 i7 x6.length)] hq ⟨hc12, trivial⟩ ?_; refine Aj (decide ((i11 : Int) < (((L6 x6 i7).Body).length : Int))) (by kernel_rfl) (fun hb => ?_) (fun hb => ?_)
                · replace h := Ao hb h; clear hb; refine Ai ?_; refine Aa ?_; refine Ae ?_; refine Ah ?_; obtain ⟨hc13, h⟩ := Ab h; obtain ⟨hc14, h⟩ := Ab h; obtain ⟨hc15, h⟩ := Ab h; obtain ⟨x16, hx16, h⟩ := bind_some h; refine B7 [⟨[], [], (.bool x16), [], []⟩] [] ⟨[(3, (.ptr 3 0)), (5, (G9 x6)), (6, (.int .i64 i7)), (7, (.int .i64 i11)), (82, (.bool (!x16)))], (G8 x3 x6), []⟩ [(A4 i7 x6.length), (A4 i7 x6.length), (A4 i11 ((L6 x6 i7).Body).length), (Spec Try.prog 15 [(.agg (Bx x3.1)), (.int .i64 (0 : Int)), (.int .i64 (L6 x6 i7).Head), (.int .i64 (((L6 x6 i7).Body).getD (i11).toNat (0 : Int)))] [] (.bool x16) [])] hq ⟨hc13, hc14, hc15, (K6 x3.1 (0 : Int) ((L6 x6 i7).Head) (((L6 x6 i7).Body).getD (i11).toNat (0 : Int)) x16 hx16), trivial⟩ ?_; refine Aj (!x16) (by kernel_rfl) (fun hb => ?_) (fun hb => ?_)
                  · replace h := Ao hb h; clear hb; refine As ⟨[(2, (.bool false))], [], []⟩ hq ?_; refine Ar ?_; refine Bc ?_; refine A0 ?_; obtain rfl := OI h; exact ⟨(by intro hh; cases hh), rfl, ⟨.inl rfl, [], by kernel_rfl⟩⟩
                  · replace h := Au hb h; clear hb; refine Ai ?_; refine Ak ?_; refine Aa ?_; refine Kd ⟨[(3, (.ptr 3 0)), (5, (G9 x6)), (6, (.int .i64 i7)), (7, (.int .i64 (Bg (i11 + (1 : Int)))))], (G8 x3 x6), []⟩ hq ?_; obtain rfl := OI h; exact ⟨rfl, Le.refl _ _⟩
                · replace h := Au hb h; clear hb; refine A7 ?_; refine A2 ?_; obtain rfl := OI h; exact ⟨(by intro hh; cases hh), rfl, Fo [3, 5, 6] [3, 38] hq⟩
              · clear hx17; rcases x17 with _ | r39
                · rintro e st' ⟨rfl, hl18⟩; refine Az ?_; refine Aa ?_; refine Af hl18 ?_; refine As ⟨[(3, (.ptr 3 0)), (5, (G9 x6)), (6, (.int .i64 i7)), (8, (.int .i64 (0 : Int)))], (G8 x3 x6), []⟩ hq ?_; refine Ah ?_; refine Af (st' := (fun (i19 : Int) => (⟨[(3, (.ptr 3 0)), (5, (G9 x6)), (6, (.int .i64 i7)), (8, (.int .i64 i19))], (G8 x3 x6), []⟩ : St)) (0 : Int)) (Le.refl _ _) ?_; obtain ⟨x36, hx36, h⟩ := bind_some h; refine A8 (fun (i19 : Int) => (⟨[(3, (.ptr 3 0)), (5, (G9 x6)), (6, (.int .i64 i7)), (8, (.int .i64 i19))], (G8 x3 x6), []⟩ : St)) _ (fun (x_ : (Unit ⊕ Bool)) (e : Exit) (st : St) => match x_ with | (.inl _) => e = (.exit 4) ∧ Le Γ st (Q386 x6 i7 x3) | (.inr r_) => e = .ret ∧ Jv Try.prog Try.f4.results.toList [] (.bool r_) [] e st) ?_ hx36 ?_
                  · intro i19 y h; unfold A9 at h; refine Ae ?_; obtain ⟨x20, hx20, h⟩ := bind_some h; refine B7 [⟨[], [], (.bool x20), [], []⟩] [] ⟨[(3, (.ptr 3 0)), (5, (G9 x6)), (6, (.int .i64 i7)), (8, (.int .i64 i19)), (89, (.bool (bif (decide ((i19 : Int) < i7)) then x20 else false)))], (G8 x3 x6), []⟩ [(((decide ((i19 : Int) < i7)) == true) = true → ((decide ((i19 : Int) < i7)) == true) = true), (((decide ((i19 : Int) < i7)) == true) = true → (Spec Try.prog 13 [(.agg (Bx x3.1))] [] (.bool x20) [])), ((decide ((i19 : Int) < i7)) = true → ((decide ((i19 : Int) < i7)) == true) = true)] hq ⟨(fun hg => hg), (fun hg => (G6 x3.1 x20 (Ao hg hx20))), gT, trivial⟩ ?_; refine Aj (bif (decide ((i19 : Int) < i7)) then x20 else false) (by kernel_rfl) (fun hb => ?_) (fun hb => ?_)
                    · replace h := Ao hb h; clear hb; refine Ai ?_; refine Aa ?_; refine Ae ?_; refine Ah ?_; refine As ⟨[(3, (.ptr 3 0)), (5, (G9 x6)), (6, (.int .i64 i7)), (8, (.int .i64 i19)), (9, (.int .i64 (0 : Int)))], (G8 x3 x6), []⟩ hq ?_; refine Ae ?_; refine As ⟨[(3, (.ptr 3 0)), (5, (G9 x6)), (6, (.int .i64 i7)), (8, (.int .i64 i19)), (9, (.int .i64 (0 : Int))), (10, (.int .i64 (0 : Int)))], (G8 x3 x6), []⟩ hq ?_; refine Ah ?_; refine Af (st' := (fun ((i21, i22) : (Int × Int)) => (⟨[(3, (.ptr 3 0)), (5, (G9 x6)), (6, (.int .i64 i7)), (8, (.int .i64 i19)), (9, (.int .i64 i21)), (10, (.int .i64 i22))], (G8 x3 x6), []⟩ : St)) ((0 : Int), (0 : Int))) (Le.refl _ _) ?_; obtain ⟨x32, hx32, h⟩ := bind_some h; refine A8 (fun ((i21, i22) : (Int × Int)) => (⟨[(3, (.ptr 3 0)), (5, (G9 x6)), (6, (.int .i64 i7)), (8, (.int .i64 i19)), (9, (.int .i64 i21)), (10, (.int .i64 i22))], (G8 x3 x6), []⟩ : St)) _ (fun (i23 : Int) (e : Exit) (st : St) => e = (.exit 6) ∧ Le Γ st (⟨[(3, (.ptr 3 0)), (5, (G9 x6)), (6, (.int .i64 i7)), (8, (.int .i64 i19)), (9, (.int .i64 i23))], (G8 x3 x6), []⟩ : St)) ?_ hx32 ?_
                      · rintro ⟨i21, i22⟩ y h; unfold Bm at h; refine Ae ?_; obtain ⟨hc24, h⟩ := Ab h; refine B7 [] [] ⟨[(3, (.ptr 3 0)), (5, (G9 x6)), (6, (.int .i64 i7)), (8, (.int .i64 i19)), (9, (.int .i64 i21)), (10, (.int .i64 i22)), (99, (.bool (decide ((i22 : Int) < (((L6 x6 i7).Body).length : Int)))))], (G8 x3 x6), []⟩ [(A4 i7 x6.length)] hq ⟨hc24, trivial⟩ ?_; refine Aj (decide ((i22 : Int) < (((L6 x6 i7).Body).length : Int))) (by kernel_rfl) (fun hb => ?_) (fun hb => ?_)
                        · replace h := Ao hb h; clear hb; refine Ai ?_; refine Aa ?_; refine Ae ?_; obtain ⟨x30, hx30, h⟩ := bind_some h; refine Ex (fun (i25 : Int) (e : Exit) (st : St) => e = .normal ∧ Le Γ st (⟨[(3, (.ptr 3 0)), (5, (G9 x6)), (6, (.int .i64 i7)), (8, (.int .i64 i19)), (9, (.int .i64 i25)), (10, (.int .i64 i22))], (G8 x3 x6), []⟩ : St)) hx30 ?_ ?_
                          · clear h hx30; intro y h; refine Ah ?_; obtain ⟨hc26, h⟩ := Ab h; obtain ⟨hc27, h⟩ := Ab h; obtain ⟨hc28, h⟩ := Ab h; obtain ⟨x29, hx29, h⟩ := bind_some h; refine B7 [⟨[], [], (.bool x29), [], []⟩] [] ⟨[(3, (.ptr 3 0)), (5, (G9 x6)), (6, (.int .i64 i7)), (8, (.int .i64 i19)), (9, (.int .i64 i21)), (10, (.int .i64 i22)), (115, (.bool x29))], (G8 x3 x6), []⟩ [(A4 i19 x6.length), (A4 i7 x6.length), (A4 i22 ((L6 x6 i7).Body).length), (Spec Try.prog 14 [(AV.list 1 Ad (0 : Int) (x6.getD (i19).toNat (default : Ax)).Body .none), (.int .i64 (((L6 x6 i7).Body).getD (i22).toNat (0 : Int)))] [] (.bool x29) [])] hq ⟨hc26, hc27, hc28, (Hx ((x6.getD (i19).toNat (default : Ax)).Body) (((L6 x6 i7).Body).getD (i22).toNat (0 : Int)) x29 hx29), trivial⟩ ?_; refine Aj x29 (by kernel_rfl) (fun hb => ?_) (fun hb => ?_)
                            · replace h := Ao hb h; clear hb; refine Kd ⟨[(3, (.ptr 3 0)), (5, (G9 x6)), (6, (.int .i64 i7)), (8, (.int .i64 i19)), (9, (.int .i64 (Bg (i21 + (1 : Int))))), (10, (.int .i64 i22))], (G8 x3 x6), []⟩ hq ?_; refine Ak ?_; obtain rfl := OI h; exact ⟨rfl, Le.refl _ _⟩
                            · replace h := Au hb h; clear hb; refine Ai ?_; refine Ak ?_; obtain rfl := OI h; exact ⟨rfl, Fo [3, 5, 6, 8, 9, 10] [3, 38] hq⟩
                          · clear hx30; rintro e st' ⟨rfl, hl31⟩; refine Aa ?_; refine Af hl31 ?_; refine Kd ⟨[(3, (.ptr 3 0)), (5, (G9 x6)), (6, (.int .i64 i7)), (8, (.int .i64 i19)), (9, (.int .i64 x30)), (10, (.int .i64 (Bg (i22 + (1 : Int)))))], (G8 x3 x6), []⟩ hq ?_; obtain rfl := OI h; exact ⟨rfl, Le.refl _ _⟩
                        · replace h := Au hb h; clear hb; refine A7 ?_; refine A2 ?_; obtain rfl := OI h; exact ⟨(by intro hh; cases hh), rfl, Fo [3, 5, 6, 8, 9] [3, 38] hq⟩
                      · clear hx32; rintro e st' ⟨rfl, hl33⟩; refine Az ?_; refine Aa ?_; refine Af hl33 ?_; obtain ⟨hc34, h⟩ := Ab h; obtain ⟨hc35, h⟩ := Ab h; refine B7 [] [] ⟨[(3, (.ptr 3 0)), (5, (G9 x6)), (6, (.int .i64 i7)), (8, (.int .i64 i19)), (139, (.bool (bif (Q379 x32 x6 i7) then ((x32 : Int) != (((x6.getD (i19).toNat (default : Ax)).Body).length : Int)) else false)))], (G8 x3 x6), []⟩ [((Mz x32) = true → (Mz x32) = true), ((Mz x32) = true → (Mz x32) = true), ((Mz x32) = true → (A4 i7 x6.length)), ((Mz x32) = true → (Mz x32) = true), ((Mz x32) = true → (Mz x32) = true), ((Mz x32) = true → (Mz x32) = true), ((Mz x32) = true → (Mz x32) = true), ((Mz x32) = true → (Mz x32) = true), (((x32 : Int) != (0 : Int)) = true → (Mz x32) = true), ((M4 x32 x6 i7) = true → (M4 x32 x6 i7) = true), ((M4 x32 x6 i7) = true → (M4 x32 x6 i7) = true), ((M4 x32 x6 i7) = true → (A4 i19 x6.length)), ((M4 x32 x6 i7) = true → (M4 x32 x6 i7) = true), ((M4 x32 x6 i7) = true → (M4 x32 x6 i7) = true), ((M4 x32 x6 i7) = true → (M4 x32 x6 i7) = true), ((M4 x32 x6 i7) = true → (M4 x32 x6 i7) = true), ((M4 x32 x6 i7) = true → (M4 x32 x6 i7) = true), ((Q379 x32 x6 i7) = true → (M4 x32 x6 i7) = true)] hq ⟨(fun hg => hg), (fun hg => hg), (fun hg => (hc34 hg)), (fun hg => hg), (fun hg => hg), (fun hg => hg), (fun hg => hg), (fun hg => hg), gT, (fun hg => hg), (fun hg => hg), (fun hg => (hc35 hg)), (fun hg => hg), (fun hg => hg), (fun hg => hg), (fun hg => hg), (fun hg => hg), gT, trivial⟩ ?_; refine Aj (bif (Q379 x32 x6 i7) then ((x32 : Int) != (((x6.getD (i19).toNat (default : Ax)).Body).length : Int)) else false) (by kernel_rfl) (fun hb => ?_) (fun hb => ?_)
                        · replace h := Ao hb h; clear hb; refine As ⟨[(2, (.bool false))], [], []⟩ hq ?_; refine Ar ?_; refine Bc ?_; refine A0 ?_; obtain rfl := OI h; exact ⟨(by intro hh; cases hh), rfl, ⟨.inl rfl, [], by kernel_rfl⟩⟩
                        · replace h := Au hb h; clear hb; refine Ai ?_; refine Ak ?_; refine Aa ?_; refine Kd ⟨[(3, (.ptr 3 0)), (5, (G9 x6)), (6, (.int .i64 i7)), (8, (.int .i64 (Bg (i19 + (1 : Int)))))], (G8 x3 x6), []⟩ hq ?_; obtain rfl := OI h; exact ⟨rfl, Le.refl _ _⟩
                    · replace h := Au hb h; clear hb; refine A7 ?_; refine A2 ?_; obtain rfl := OI h; exact ⟨(by intro hh; cases hh), rfl, Fo [3, 5, 6] [3, 38] hq⟩
                  · clear hx36; rcases x36 with _ | r38
                    · rintro e st' ⟨rfl, hl37⟩; refine Az ?_; refine Ak ?_; refine Aa ?_; refine Af hl37 ?_; refine Kd ⟨[(3, (.ptr 3 0)), (5, (G9 x6)), (6, (.int .i64 (Bg (i7 + (1 : Int)))))], (G8 x3 x6), []⟩ hq ?_; obtain rfl := OI h; exact ⟨rfl, Le.refl _ _⟩
                    · rintro e st' ⟨rfl, hk⟩; refine Bc ?_; refine Bc ?_; refine A0 ?_; obtain rfl := OI h; exact ⟨(by intro hh; cases hh), rfl, hk⟩
                · rintro e st' ⟨rfl, hk⟩; refine Bc ?_; refine A0 ?_; refine Bc ?_; refine A0 ?_; obtain rfl := OI h; exact ⟨(by intro hh; cases hh), rfl, hk⟩
          · replace h := Au hb h; clear hb; refine A7 ?_; refine A2 ?_; obtain rfl := OI h; exact ⟨(by intro hh; cases hh), rfl, Fo [] [] hq⟩
        · clear hx40; rcases x40 with _ | r42
          · rintro e st' ⟨rfl, hl41⟩; refine Az ?_; refine Aa ?_; refine Af hl41 ?_; refine As ⟨[(2, (.bool true))], [], []⟩ hq ?_; refine Ar ?_; obtain rfl := OI h; exact ⟨.inl rfl, [], by kernel_rfl⟩
          · rintro e st' ⟨rfl, hk⟩; refine Bc ?_; refine A0 ?_; obtain rfl := OI h; exact hk
end
end Go.Proofs.Ytjpacggpipflcaa

namespace Go.Proofs.Ytjpacggpipflcaa
noncomputable section
open Go Go.RowKit
theorem J9 {n : Int} (h : -9223372036854775808 ≤ n) (h' : n < 9223372036854775808) : Bg n = n := by
  show IntKind.i64.wrap n = n
  simp only [IntKind.wrap, IntKind.bits, IntKind.signed]
  simp
  split <;> omega
theorem Ag {α : Type} (l : List α) (i : Nat) (d : α) (h : i < l.length) : l.getD i d = l[i] := by simp [List.getD, h]
end
end Go.Proofs.Ytjpacggpipflcaa

namespace Go.Proofs.Ytjpacggpipflcaa
noncomputable section
open Go Go.RowKit
set_option linter.unusedVariables false
theorem flat_bound {α β : Type} (l : List α) (E : α → List β) (B : Nat) (h : ∀ a ∈ l, (E a).length ≤ B) : (l.map E).flatten.length ≤ l.length * B := by
  induction l with
  | nil => simp
  | cons a l ih =>
    have h1 := h a (by simp); have h2 := ih (fun b hb => h b (by simp [hb])); rw [List.map_cons, List.flatten_cons, List.length_append, List.length_cons, Nat.add_mul]; omega
theorem Ef {α : Type} {l : List α} {i : Nat} {d : α} (h : i < l.length) : l.getD i d ∈ l := by rw [Ag _ _ _ h]; exact List.getElem_mem h
theorem inB_nat {i n : Nat} (h : i < n) : A4 (i : Int) n := ⟨by omega, by exact_mod_cast h⟩
end
end Go.Proofs.Ytjpacggpipflcaa

namespace Go.Proofs.Ytjpacggpipflcaa
noncomputable section
open Go Go.RowKit
set_option linter.unusedVariables false
set_option linter.unusedSimpArgs false
theorem Dc {S X : Type} (f : S → Option (LR S X)) (T : Nat → S) (x : X) : ∀ (n : Nat), (∀ i, i < n → f (T i) = some (.next (T (i + 1)))) → f (T n) = some (.done x) → At f (T 0) = some x := by
  suffices h : ∀ (k i n : Nat), i + k = n → (∀ j, i ≤ j → j < n → f (T j) = some (.next (T (j + 1)))) → f (T n) = some (.done x) → At f (T i) = some x from
    fun n h1 h2 => h n 0 n (by omega) (fun j _ hj => h1 j hj) h2
  intro k
  induction k with
  | zero =>
    intro i n hi _ h2
    have hin : n = i := by omega
    subst hin; exact A6 h2
  | succ k ih => intro i n hi h1 h2; rw [Bu (h1 i (Nat.le_refl _) (by omega))]; exact ih (i + 1) n (by omega) (fun j hj hj' => h1 j (by omega) hj') h2
theorem Tk {S X : Type} (f : S → Option (LR S X)) (T : Nat → S) : ∀ (n : Nat), (∀ i, i < n → f (T i) = some (.next (T (i + 1)))) → At f (T 0) = At f (T n) := by
  intro n
  induction n with
  | zero => intro _; rfl
  | succ n ih => intro h; rw [ih (fun i hi => h i (by omega)), Bu (h n (by omega))]
theorem Gn {S X : Type} (f : S → Option (LR S X)) (T : Nat → S) (p : Nat → Bool) (yes no : X) (n : Nat) (hn : ∀ i, i < n → p i = true → f (T i) = some (.next (T (i + 1)))) (hf : ∀ i, i < n → p i = false → f (T i) = some (.done no))
    (he : f (T n) = some (.done yes)) : At f (T 0) = some (bif (List.range n).all p then yes else no) := by
  cases hall : (List.range n).all p with
  | true =>
    rw [cond_true]; exact Dc f T yes n (fun i hi => hn i hi (List.all_eq_true.1 hall i (List.mem_range.2 hi))) he
  | false =>
    rw [cond_false]
    have hex : ∃ i, i < n ∧ p i = false := by
      have : ¬ ∀ i ∈ List.range n, p i = true := fun h => by rw [List.all_eq_true.2 h] at hall; cases hall
      simpa using this
    let P : Nat → Prop := fun m => m < n ∧ p m = false
    obtain ⟨m, hm⟩ := hex
    have key : ∀ m, m < n → p m = false → ∃ k, k < n ∧ p k = false ∧ ∀ j, j < k → p j = true := by
      intro m
      induction m using Nat.strongRecOn with
      | ind m ih =>
        intro h1 h2
        by_cases h : ∃ j, j < m ∧ p j = false
        · obtain ⟨j, hj, hpj⟩ := h; exact ih j hj (by omega) hpj
        · refine ⟨m, h1, h2, fun j hj => ?_⟩
          cases hpj : p j with
          | true => rfl
          | false => exact (h ⟨j, hj, hpj⟩).elim
    obtain ⟨k, hk, hpk, hlt⟩ := key m hm.1 hm.2; rw [Tk f T k (fun i hi => hn i (by omega) (hlt i hi))]; exact A6 (hf k hk hpk)
theorem all_range {n : Nat} {p : Nat → Bool} : (List.range n).all p = true ↔ ∀ i, i < n → p i = true := by
  rw [List.all_eq_true]; exact ⟨fun h i hi => h i (List.mem_range.2 hi), fun h i hi => h i (List.mem_range.1 hi)⟩
theorem Aq (i : Nat) : ((i : Int)).toNat = i := Int.toNat_natCast i
theorem w1 {i : Nat} (h : i < 4611686018427387904) : Bg ((i : Int) + 1) = ((i + 1 : Nat) : Int) := by rw [J9 (by omega) (by omega)]; omega
theorem Cs {i n : Nat} (h : i < n) : decide (((i : Nat) : Int) < ((n : Nat) : Int)) = true := by simpa using h
theorem Ee {n : Nat} : decide (((n : Nat) : Int) < ((n : Nat) : Int)) = false := by simp
theorem Dn {i n : Nat} (h : i < n) : A4 ((i : Nat) : Int) n := inB_nat h
theorem inbz {x : Int} {n : Nat} (h0 : 0 ≤ x) (h1 : x < n) : A4 x n := ⟨h0, h1⟩
def okAt (n : Nat) (l : List Int) (i : Nat) : Bool := decide ((if i = 0 then (-1 : Int) else l.getD (i - 1) 0) < l.getD i 0) && (decide (0 ≤ l.getD i 0) && decide (l.getD i 0 < n))
def okL (n : Nat) (l : List Int) : Bool := (List.range l.length).all (okAt n l)
def Ez (L : List (List Int)) : Bool := decide (1 ≤ L.length) && decide (L.length ≤ 64) && (List.range L.length).all fun i => okL L.length (L.getD i [])
def Ng (L : List (List Int)) (k i : Nat) : Bool := (L.getD k []).contains (i : Int)
def E3 (L : List (List Int)) (m i : Nat) : List Int := ((List.range m).filter fun k => Ng L k i).map Int.ofNat
def Ec (L : List (List Int)) : List (List Int) := (List.range L.length).map (E3 L L.length)
theorem Mf (a n : Int) : Es a n = some (decide (0 ≤ a) && decide (a < n)) := by
  unfold Es
  cases decide ((0 : Int) ≤ a) <;> rfl
theorem m_isCount (n : Nat) : Fg (n : Int) = some (decide (1 ≤ n) && decide (n ≤ 64)) := by
  unfold Fg
  have h1 : decide ((1 : Int) ≤ (n : Int)) = decide (1 ≤ n) := by apply decide_eq_decide.2; omega
  have h2 : decide ((n : Int) ≤ (64 : Int)) = decide (n ≤ 64) := by apply decide_eq_decide.2; omega
  rw [h1, h2]
  cases decide (1 ≤ n) <;> rfl
theorem S5 (L : List (List Int)) (i : Nat) (hl : (L.getD i []).length < 4611686018427387904) :
    At (B9 L (i : Int)) ((-1 : Int), (0 : Int)) = some (bif okL L.length (L.getD i []) then .inl () else .inr false) := by
  refine Gn (B9 L (i : Int)) (fun j => ((if j = 0 then (-1 : Int) else (L.getD i []).getD (j - 1) 0), ((j : Nat) : Int))) (okAt L.length (L.getD i [])) (.inl ()) (.inr false) _ (fun j hj hp => ?_) (fun j hj hp => ?_) ?_
  · unfold okAt at hp; simp only [Bool.and_eq_true, decide_eq_true_eq] at hp; obtain ⟨h1, h2, h3⟩ := hp
    show B9 L (i : Int) (_, _) = _
    unfold B9; simp only [Aq, Cs hj, cond_true, Mf]; rw [Ac (Dn hj)]
    have e1 : decide ((L.getD i []).getD j 0 ≤ (if j = 0 then (-1 : Int) else (L.getD i []).getD (j - 1) 0)) = false := by simpa using h1
    simp only [e1, decide_eq_true h2, decide_eq_true h3, Bool.and_self, beq_self_eq_true, cond_true, cond_false, Option.bind_some, Bool.not_true]; rw [w1 (show j < 4611686018427387904 by omega)]
    simp
  · show B9 L (i : Int) (_, _) = _
    unfold B9; simp only [Aq, Cs hj, cond_true, Mf]; rw [Ac (Dn hj)]
    cases h1 : decide ((L.getD i []).getD j 0 ≤ (if j = 0 then (-1 : Int) else (L.getD i []).getD (j - 1) 0)) with
    | true => simp only [cond_true, show ((true == false) = false) from rfl, cond_false, Option.bind_some]
    | false =>
      have h1' : decide ((if j = 0 then (-1 : Int) else (L.getD i []).getD (j - 1) 0) < (L.getD i []).getD j 0) = true := by simpa using h1
      unfold okAt at hp; rw [h1', Bool.true_and] at hp; simp only [beq_self_eq_true, cond_true, cond_false, Option.bind_some, hp, Bool.not_false]
  · show B9 L (i : Int) (_, _) = _
    unfold B9; simp only [Aq, Ee, cond_false]
def Fits (L : List (List Int)) : Prop := L.length < 4611686018427387904 ∧ ∀ l ∈ L, l.length < 4611686018427387904
theorem Fits.at {L : List (List Int)} (h : Fits L) (i : Nat) : (L.getD i []).length < 4611686018427387904 := by
  by_cases hi : i < L.length
  · exact h.2 _ (Ef hi)
  · rw [List.getD_eq_getElem?_getD, List.getElem?_eq_none (by omega)]; simp
theorem T9 (L : List (List Int)) (h : Fits L) : Er L = some (Ez L) := by
  unfold Er; rw [m_isCount, Option.bind_some]; unfold Ez
  cases hc : (decide (1 ≤ L.length) && decide (L.length ≤ 64)) with
  | false => rfl
  | true =>
    simp only [Bool.not_true, cond_false, Bool.true_and]; have := Gn (Ca L) (fun j => ((j : Nat) : Int)) (fun i => okL L.length (L.getD i [])) (.inl ()) (.inr false) L.length (fun j hj hp => ?_) (fun j hj hp => ?_) ?_
    · rw [show At (Ca L) (0 : Int) = _ from this]
      cases (List.range L.length).all fun i => okL L.length (L.getD i []) <;> rfl
    · show Ca L (j : Int) = _
      unfold Ca; simp only [Cs hj, cond_true]; rw [Ac (Dn hj), S5 L j (h.at j), hp]; simp only [cond_true, Option.bind_some, w1 (show j < 4611686018427387904 by have := h.1; omega)]
    · show Ca L (j : Int) = _
      unfold Ca; simp only [Cs hj, cond_true]; rw [Ac (Dn hj), S5 L j (h.at j), hp]
      rfl
    · show Ca L _ = _
      unfold Ca; simp only [Ee, cond_false]
end
end Go.Proofs.Ytjpacggpipflcaa

namespace Go.Proofs.Ytjpacggpipflcaa
noncomputable section
open Go Go.RowKit
set_option linter.unusedVariables false
set_option linter.unusedSimpArgs false
theorem I9 {α : Type} {n i : Nat} {g : Nat → α} {d : α} (h : i < n) : ((List.range n).map g).getD i d = g i := by simp [List.getD, h]
theorem Pj {α : Type} {n i : Nat} {g : Nat → α} {x : α} : ((List.range n).map g).set i x = (List.range n).map fun j => if j = i then x else g j := by
  apply List.ext_getElem?
  intro j; rw [List.getElem?_set]
  by_cases hj : j < n
  · by_cases hij : i = j
    · subst hij; simp [hj]
    · simp [hij, hj, Ne.symm hij]
  · simp [hj]; intro h; omega
theorem Gx {α : Type} {n : Nat} {g h : Nat → α} (H : ∀ i, i < n → g i = h i) : (List.range n).map g = (List.range n).map h := List.map_congr_left fun i hi => H i (List.mem_range.1 hi)
theorem mayS_iff {L : List (List Int)} : Ez L = true ↔ 1 ≤ L.length ∧ L.length ≤ 64 ∧ ∀ i, i < L.length → okL L.length (L.getD i []) = true := by
  unfold Ez; rw [Bool.and_eq_true, Bool.and_eq_true, all_range]; simp only [decide_eq_true_eq]; exact ⟨fun ⟨⟨a, b⟩, c⟩ => ⟨a, b, c⟩, fun ⟨a, b, c⟩ => ⟨⟨a, b⟩, c⟩⟩
theorem okL_iff {n : Nat} {l : List Int} : okL n l = true ↔ ∀ i, i < l.length → (0 ≤ l.getD i 0 ∧ l.getD i 0 < n) ∧ (0 < i → l.getD (i - 1) 0 < l.getD i 0) := by
  unfold okL; rw [all_range]; unfold okAt; simp only [Bool.and_eq_true, decide_eq_true_eq]
  constructor
  · intro h i hi; obtain ⟨h1, h2, h3⟩ := h i hi; refine ⟨⟨h2, h3⟩, fun hp => ?_⟩; rwa [if_neg (by omega)] at h1
  · intro h i hi; obtain ⟨⟨h2, h3⟩, h1⟩ := h i hi; refine ⟨?_, h2, h3⟩
    by_cases hz : i = 0
    · rw [if_pos hz]; omega
    · rw [if_neg hz]; exact h1 (by omega)
section
variable {n : Nat} {l : List Int} (h : okL n l = true)
include h
theorem Nw {i : Nat} (hi : i < l.length) : 0 ≤ l.getD i 0 ∧ l.getD i 0 < n := (okL_iff.1 h i hi).1
theorem Aaa {i j : Nat} (hij : i < j) (hj : j < l.length) : l.getD i 0 < l.getD j 0 := by
  induction j with
  | zero => omega
  | succ j ih =>
    have h1 := (okL_iff.1 h (j + 1) hj).2 (by omega); rw [show j + 1 - 1 = j by omega] at h1
    by_cases he : i = j
    · rw [he]; exact h1
    · exact Int.lt_trans (ih (by omega) (by omega)) h1
theorem okL_ge {i : Nat} (hi : i < l.length) : (i : Int) ≤ l.getD i 0 := by
  induction i with
  | zero => exact (Nw h hi).1
  | succ i ih =>
    have := Aaa h (show i < i + 1 by omega) hi; have := ih (by omega); omega
theorem Jg : l.length ≤ n := by
  by_cases hz : l.length = 0
  · omega
  · have h1 := okL_ge h (show l.length - 1 < l.length by omega); have h2 := (Nw h (show l.length - 1 < l.length by omega)).2; omega
theorem H5 {x : Int} (hx : x ∈ l) : 0 ≤ x ∧ x < n := by
  obtain ⟨i, hi, rfl⟩ := List.getElem_of_mem hx; have := Nw h hi; rwa [Ag _ _ _ hi] at this
theorem X4 : l.Pairwise (· < ·) := by
  rw [List.pairwise_iff_getElem]; intro i j hi hj hij; have := Aaa h hij hj; rwa [Ag _ _ _ hi, Ag _ _ _ hj] at this
end
theorem okL_of {n : Nat} {l : List Int} (h1 : ∀ x ∈ l, 0 ≤ x ∧ x < n) (h2 : l.Pairwise (· < ·)) : okL n l = true := by
  rw [okL_iff]; intro i hi; rw [Ag _ _ _ hi]; refine ⟨h1 _ (List.getElem_mem hi), fun hp => ?_⟩; rw [Ag _ _ _ (show i - 1 < l.length by omega)]; exact (List.pairwise_iff_getElem.1 h2) _ _ _ _ (by omega)
theorem Mo {L : List (List Int)} (h : Ez L = true) : L.length ≤ 64 ∧ ∀ l ∈ L, l.length ≤ 64 := by
  obtain ⟨h1, h2, h3⟩ := mayS_iff.1 h; refine ⟨h2, fun l hl => ?_⟩; obtain ⟨i, hi, rfl⟩ := List.getElem_of_mem hl; have := Jg (h3 i hi); rw [Ag _ _ _ hi] at this; omega
theorem Qx {L : List (List Int)} (h : L.length ≤ 1000 ∧ ∀ l ∈ L, l.length ≤ 1000) : Fits L := ⟨by omega, fun l hl => by have := h.2 l hl; omega⟩
theorem m_clone (l : List Int) (h : l.length ≤ room) : Ds l = some l := by
  unfold Ds; rw [Ac (by simpa using h)]
  simp
theorem m_copied (L : List (List Int)) (h : L.length ≤ 1000 ∧ ∀ l ∈ L, l.length ≤ 1000) : Fp L = some L := by
  have hroom : (1000 : Nat) ≤ room := by decide
  unfold Fp; rw [Ac ⟨by omega, Int.le_refl _, by omega⟩, Aq]; have : At (C5 L) ((0 : Int), (List.range L.length).map fun i => if i < 0 then L.getD i [] else []) = some L := Dc (C5 L) (fun j => (((j : Nat) : Int), (List.range L.length).map fun i => if i < j then L.getD i [] else [])) L L.length (fun j hj => ?_) ?_
  · have e0 : (List.replicate L.length ([] : List Int)) = (List.range L.length).map fun i => if i < 0 then L.getD i [] else [] := by
      apply List.ext_getElem?
      intro i
      by_cases hi : i < L.length <;> simp [hi, List.getElem?_replicate]
    rw [e0, this]; rfl
  · show C5 L (_, _) = _
    unfold C5; simp only [Aq, Cs hj, cond_true]; rw [Ac (Dn hj), m_clone _ (by have := h.2 _ (Ef (d := []) hj); omega), Option.bind_some, Ac (Dn (by simpa using hj)), Pj, w1 (by omega)]
    congr 3
    apply Gx
    intro i hi
    by_cases h1 : i = j
    · subst h1; simp
    · by_cases h2 : i < j
      · simp [h1, h2, show i < j + 1 by omega]
      · simp [h1, h2, show ¬ i < j + 1 by omega]
  · show C5 L (_, _) = _
    unfold C5; simp only [Ee, cond_false]
    congr 2
    apply List.ext_getElem?
    intro i
    by_cases hi : i < L.length
    · simp [hi]
    · simp [hi]
theorem Xy (L : List (List Int)) (k i : Nat) : E3 L (k + 1) i = E3 L k i ++ (if Ng L k i = true then [(k : Int)] else []) := by
  unfold E3; rw [List.range_succ, List.filter_append, List.map_append]
  congr 1
  cases hg : Ng L k i <;> simp [hg]
theorem Kh (L : List (List Int)) (k i : Nat) : (E3 L k i).length ≤ k := by
  unfold E3; rw [List.length_map]; have := List.length_filter_le (fun k => Ng L k i) (List.range k)
  simpa using this
theorem Ps {l : List Int} {j : Nat} (hj : j < l.length) : l.take (j + 1) = l.take j ++ [l.getD j 0] := by
  rw [Ag _ _ _ hj, List.take_succ_eq_append_getElem hj]
def Jj (L : List (List Int)) (k j i : Nat) : Bool := ((L.getD k []).take j).contains (i : Int)
def Fq (L : List (List Int)) (k j : Nat) : List (List Int) := (List.range L.length).map fun i => E3 L k i ++ (if Jj L k j i = true then [(k : Int)] else [])
theorem Wk (L : List (List Int)) (h : Ez L = true) (k j : Nat) (hk : k < L.length) (hj : j < (L.getD k []).length) :
    (Fq L k j).set ((L.getD k []).getD j 0).toNat ((Fq L k j).getD ((L.getD k []).getD j 0).toNat [] ++ [(k : Int)]) = Fq L k (j + 1) := by
  obtain ⟨h1, h2, h3⟩ := mayS_iff.1 h; have hok := h3 k hk; obtain ⟨a0, a1⟩ := Nw hok hj; unfold Fq; rw [I9 (by omega), Pj]
  apply Gx
  intro i hi
  have hnot : Jj L k j ((L.getD k []).getD j 0).toNat = false := by
    unfold Jj; rw [Int.toNat_of_nonneg a0]
    cases hc : ((L.getD k []).take j).contains ((L.getD k []).getD j 0) with
    | false => rfl
    | true =>
      rw [List.contains_iff_mem] at hc; obtain ⟨m, hm, he⟩ := List.getElem_of_mem hc
      have hm' : m < j := by simp at hm; omega
      rw [List.getElem_take] at he; have := Aaa hok hm' hj; rw [Ag _ _ _ (show m < (L.getD k []).length by omega), he] at this; omega
  by_cases hi2 : i = ((L.getD k []).getD j 0).toNat
  · rw [if_pos hi2, hnot]
    have : Jj L k (j + 1) i = true := by
      unfold Jj; rw [Ps hj, List.contains_iff_mem, hi2, Int.toNat_of_nonneg a0]
      simp
    rw [this, hi2]
    simp
  · rw [if_neg hi2]
    have : Jj L k (j + 1) i = Jj L k j i := by
      unfold Jj; rw [Ps hj, Bool.eq_iff_iff, List.contains_iff_mem, List.contains_iff_mem, List.mem_append]
      constructor
      · rintro (hm | hm)
        · exact hm
        · simp only [List.mem_singleton] at hm; exact (hi2 (by omega)).elim
      · exact .inl
    rw [this]
theorem Yc (L : List (List Int)) (h : Ez L = true) : E7 L = some (Ec L) := by
  obtain ⟨h1, h2, h3⟩ := mayS_iff.1 h
  have hroom : (1000 : Nat) ≤ room := by decide
  unfold E7; rw [Ac ⟨by omega, Int.le_refl _, by omega⟩, Aq]
  have inner : ∀ k, k < L.length → At (C8 L (k : Int)) ((0 : Int), Fq L k 0) = some (Fq L k (L.getD k []).length) := fun k hk => by
    have hok := h3 k hk; refine Dc (C8 L (k : Int)) (fun j => (((j : Nat) : Int), Fq L k j)) (Fq L k (L.getD k []).length) (L.getD k []).length (fun j hj => ?_) ?_
    · obtain ⟨a0, a1⟩ := Nw hok hj
      have hlen : (Fq L k j).length = L.length := by simp [Fq]
      have hl64 := Jg hok
      show C8 L (k : Int) (_, _) = _
      unfold C8; simp only [Aq, Cs hj, cond_true]; have hb : A4 ((L.getD k []).getD j 0) (Fq L k j).length := ⟨a0, by rw [hlen]; exact a1⟩
      have hrow : ((Fq L k j).getD ((L.getD k []).getD j 0).toNat []).length ≤ k + 1 := by
        unfold Fq; rw [I9 (by omega), List.length_append]; have := Kh L k ((L.getD k []).getD j 0).toNat
        split
        · rw [List.length_singleton]; omega
        · rw [List.length_nil]; omega
      rw [Ac (Dn hj), Ac hb, Ac hb, Ac (by simp only [List.length_singleton]; omega), Ac hb, Wk L h k j hk hj, w1 (by omega)]
    · show C8 L (k : Int) (_, _) = _
      unfold C8; simp only [Aq, Ee, cond_false]
  have r0 : ∀ k, Fq L k 0 = (List.range L.length).map (E3 L k) := fun k => by
    unfold Fq
    apply Gx
    intro i _; simp [Jj]
  have r1 : ∀ k, Fq L k (L.getD k []).length = (List.range L.length).map (E3 L (k + 1)) := fun k => by
    unfold Fq
    apply Gx
    intro i _; rw [Xy]; unfold Jj Ng; rw [List.take_length]
  have : At (C7 L) ((0 : Int), (List.range L.length).map (E3 L 0)) = some (Ec L) := Dc (C7 L) (fun k => (((k : Nat) : Int), (List.range L.length).map (E3 L k))) (Ec L) L.length (fun k hk => ?_) ?_
  · have e0 : (List.replicate L.length ([] : List Int)) = (List.range L.length).map (E3 L 0) := by
      apply List.ext_getElem?
      intro i
      by_cases hi : i < L.length <;> simp [hi, List.getElem?_replicate, E3]
    rw [e0, this]; rfl
  · show C7 L (_, _) = _
    unfold C7; simp only [Cs hk, cond_true]; rw [Ac (Dn hk), ← r0, inner k hk, r1, w1 (by omega)]
    rfl
  · show C7 L (_, _) = _
    unfold C7; simp only [Ee, cond_false]
    rfl
end
end Go.Proofs.Ytjpacggpipflcaa

namespace Go.Proofs.Ytjpacggpipflcaa
noncomputable section
open Go Go.RowKit
set_option linter.unusedVariables false
set_option linter.unusedSimpArgs false
theorem Lz {α : Type} [DecidableEq α] {a b : List α} {d : α} (h : a.length = b.length) : ((List.range a.length).all fun i => decide (a.getD i d = b.getD i d)) = decide (a = b) := by
  rw [Bool.eq_iff_iff, all_range, decide_eq_true_eq]
  constructor
  · intro hall
    apply List.ext_getElem h
    intro i h1 h2; have := of_decide_eq_true (hall i h1); rwa [Ag _ _ _ h1, Ag _ _ _ h2] at this
  · rintro rfl i _
    simp
theorem U6 {a b : Nat} : (((a : Nat) : Int) != (b : Int)) = decide (a ≠ b) := by
  rw [Bool.eq_iff_iff, bne_iff_ne, decide_eq_true_eq]; omega
theorem V9 {a b : Int} : (a != b) = !decide (a = b) := by
  rw [Bool.eq_iff_iff]
  simp
theorem m_equal (a b : List Int) (hb : b.length < 4611686018427387904) : Dp a b = some (decide (a = b)) := by
  unfold Dp; rw [U6]
  by_cases hl : a.length = b.length
  · rw [decide_eq_false (by simpa using hl), cond_false]; have : At (Ba a b) (0 : Int) = _ := Gn (Ba a b) (fun j => ((j : Nat) : Int)) (fun i => decide (a.getD i 0 = b.getD i 0)) (.inl ()) (.inr false) a.length (fun j hj hp => ?_) (fun j hj hp => ?_) ?_
    · rw [this, Lz hl]
      cases decide (a = b) <;> rfl
    · show Ba a b (j : Int) = _
      unfold Ba; simp only [Aq, Cs hj, cond_true]; rw [Ac (Dn hj), Ac (Dn (by omega)), V9, hp, w1 (by omega)]
      rfl
    · show Ba a b (j : Int) = _
      unfold Ba; simp only [Aq, Cs hj, cond_true]; rw [Ac (Dn hj), Ac (Dn (by omega)), V9, hp]
      rfl
    · show Ba a b _ = _
      unfold Ba; simp only [Ee, cond_false]
  · rw [decide_eq_true (by simpa using hl), cond_true, decide_eq_false (fun h => hl (by rw [h]))]
theorem m_ints (a b : List Int) (ha : a.length < 4611686018427387904) : Cw a b = some (decide (a = b)) := by
  unfold Cw; rw [U6]
  by_cases hl : a.length = b.length
  · rw [decide_eq_false (by simpa using hl), cond_false]; have : At (Bn a b) (0 : Int) = _ := Gn (Bn a b) (fun j => ((j : Nat) : Int)) (fun i => decide (a.getD i 0 = b.getD i 0)) (.inl ()) (.inr false) a.length (fun j hj hp => ?_) (fun j hj hp => ?_) ?_
    · rw [this, Lz hl]
      cases decide (a = b) <;> rfl
    · show Bn a b (j : Int) = _
      unfold Bn; simp only [Aq, Cs hj, cond_true]; rw [Ac (Dn hj), Ac (Dn (by omega)), V9, hp, w1 (by omega)]
      rfl
    · show Bn a b (j : Int) = _
      unfold Bn; simp only [Aq, Cs hj, cond_true]; rw [Ac (Dn hj), Ac (Dn (by omega)), V9, hp]
      rfl
    · show Bn a b _ = _
      unfold Bn; simp only [Ee, cond_false]
  · rw [decide_eq_true (by simpa using hl), cond_true, decide_eq_false (fun h => hl (by rw [h]))]
theorem Wv (a b : List (List Int)) (hb : Fits b) : B3 a b = some (decide (a = b)) := by
  unfold B3; rw [U6]
  by_cases hl : a.length = b.length
  · rw [decide_eq_false (by simpa using hl), cond_false]; have hb1 := hb.1; have : At (Aw a b) (0 : Int) = _ := Gn (Aw a b) (fun j => ((j : Nat) : Int)) (fun i => decide (a.getD i [] = b.getD i [])) (.inl ()) (.inr false) a.length (fun j hj hp => ?_) (fun j hj hp => ?_) ?_
    · rw [this, Lz hl]
      cases decide (a = b) <;> rfl
    · show Aw a b (j : Int) = _
      unfold Aw; simp only [Aq, Cs hj, cond_true]; rw [Ac (Dn hj), Ac (Dn (by omega)), m_equal _ _ (hb.at j), hp, w1 (by omega)]
      rfl
    · show Aw a b (j : Int) = _
      unfold Aw; simp only [Aq, Cs hj, cond_true]; rw [Ac (Dn hj), Ac (Dn (by omega)), m_equal _ _ (hb.at j), hp]
      rfl
    · show Aw a b _ = _
      unfold Aw; simp only [Ee, cond_false]
  · rw [decide_eq_true (by simpa using hl), cond_true, decide_eq_false (fun h => hl (by rw [h]))]
theorem Ko (L : List (List Int)) : (Ec L).length = L.length := by simp [Ec]
theorem Ph {L : List (List Int)} {i : Nat} (hi : i < L.length) : (Ec L).getD i [] = E3 L L.length i := by unfold Ec; rw [I9 hi]
theorem Ol {L : List (List Int)} (h : Ez L = true) : (Ec L).length ≤ 64 ∧ ∀ l ∈ Ec L, l.length ≤ 64 := by
  obtain ⟨h1, _⟩ := Mo h; refine ⟨by rw [Ko]; exact h1, fun l hl => ?_⟩; obtain ⟨i, hi, rfl⟩ := List.mem_map.1 hl; have := Kh L L.length i; omega
theorem Kw {L : List (List Int)} (h : L.length ≤ 64 ∧ ∀ l ∈ L, l.length ≤ 64) : Fits L := Qx ⟨by omega, fun l hl => by have := h.2 l hl; omega⟩
theorem small_k {L : List (List Int)} (h : L.length ≤ 64 ∧ ∀ l ∈ L, l.length ≤ 64) : L.length ≤ 1000 ∧ ∀ l ∈ L, l.length ≤ 1000 := ⟨by omega, fun l hl => by have := h.2 l hl; omega⟩
def H9 (g : An) : Bool := Ez g.Succ && decide (g.Pred = Ec g.Succ)
theorem m_may (g : An) (h : Fits g.Succ) : Gr g = some (H9 g) := by
  unfold Gr H9; rw [T9 _ h, Option.bind_some]
  cases hm : Ez g.Succ with
  | false => rfl
  | true =>
    simp only [beq_self_eq_true, cond_true, Yc _ hm, Option.bind_some, Wv _ _ (Kw (Ol hm)), Bool.true_and]
def Gt (L : List (List Int)) : An := ⟨L, Ec L⟩
def g0 : An := ⟨[], []⟩
theorem Y6 (L : List (List Int)) (h : Fits L) : Ey L = some (bif Ez L then (Gt L, 0) else (g0, 5)) := by
  unfold Ey; rw [T9 _ h, Option.bind_some]
  cases hm : Ez L with
  | false => rfl
  | true =>
    simp only [Bool.not_true, cond_false, m_copied _ (small_k (Mo hm)), Yc _ hm, Option.bind_some]
    rfl
theorem Ob {L : List (List Int)} (h : Ez L = true) : H9 (Gt L) = true := by simp [H9, Gt, h]
theorem m_has (l : List Int) (x : Int) (h : l.length < 4611686018427387904) : C2 l x = some (l.contains x) := by
  unfold C2; have : At (Bo l x) (0 : Int) = _ := Gn (Bo l x) (fun j => ((j : Nat) : Int)) (fun i => !decide (l.getD i 0 = x)) (.inl ()) (.inr true) l.length (fun j hj hp => ?_) (fun j hj hp => ?_) ?_
  · rw [this]
    have e : l.contains x = !((List.range l.length).all fun i => !decide (l.getD i 0 = x)) := by
      rw [Bool.eq_iff_iff, List.contains_iff_mem, Bool.not_eq_true', ← Bool.not_eq_true, all_range]
      constructor
      · intro hx hall; obtain ⟨i, hi, rfl⟩ := List.getElem_of_mem hx; have := hall i hi; rw [Ag _ _ _ hi] at this; simp at this
      · intro hall
        by_cases hx : x ∈ l
        · exact hx
        · refine (hall fun i hi => ?_).elim; rw [Ag _ _ _ hi]; simp only [Bool.not_eq_true', decide_eq_false_iff_not]; rintro rfl; exact hx (List.getElem_mem hi)
    rw [e]
    cases (List.range l.length).all fun i => !decide (l.getD i 0 = x) <;> rfl
  · show Bo l x (j : Int) = _
    unfold Bo; simp only [Aq, Cs hj, cond_true]
    have : (l.getD j 0 == x) = false := by simpa using hp
    rw [Ac (Dn hj), this, w1 (by omega)]
    rfl
  · show Bo l x (j : Int) = _
    unfold Bo; simp only [Aq, Cs hj, cond_true]
    have : (l.getD j 0 == x) = true := by simpa using hp
    rw [Ac (Dn hj), this]
    rfl
  · show Bo l x _ = _
    unfold Bo; simp only [Ee, cond_false]
end
end Go.Proofs.Ytjpacggpipflcaa

namespace Go.Proofs.Ytjpacggpipflcaa
noncomputable section
open Go Go.RowKit
set_option linter.unusedVariables false
set_option linter.unusedSimpArgs false
theorem Mp {R : Type} {c : Bool} {q : Prop} [Decidable q] {k : Option R} (h : q) : Cc (c = true → q) k = k := Ac fun _ => h
theorem chk_off {R : Type} {q : Prop} [Decidable q] {k : Option R} : Cc (false = true → q) k = k := Ac (by intro h; cases h)
theorem Oj {L : List (List Int)} (h : Ez L = true) : Fits (Gt L).Succ ∧ Fits (Gt L).Pred := ⟨Kw (Mo h), Kw (Ol h)⟩
def Sy (L : List (List Int)) : Bool := (List.range L.length).all fun i => decide ((L.getD i []).length ≤ 100) && decide (i ≤ 100)
theorem m_small (L : List (List Int)) (hL : L.length < 9223372036854775808) : D0 L = some (Sy L) := by
  unfold D0
  have step : ∀ j : Nat, j < L.length → Bj L (j : Int) = bif (decide ((L.getD j []).length ≤ 100) && decide (j ≤ 100)) then some (.next (((j + 1 : Nat) : Int))) else some (.done (.inr false)) := fun j hj => by
    unfold Bj; simp only [Aq, Cs hj, cond_true]; rw [Ac (Dn hj)]
    have hw : Bg ((j : Int) + 1) = ((j + 1 : Nat) : Int) := by rw [J9 (by omega) (by omega)]; omega
    rw [hw]
    by_cases h1 : (L.getD j []).length ≤ 100
    · rw [decide_eq_true h1, decide_eq_false (show ¬ (100 : Int) < ((L.getD j []).length : Int) by omega)]
      by_cases h2 : j ≤ 100
      · rw [decide_eq_true h2, decide_eq_false (show ¬ (100 : Int) < (j : Int) by omega)]; rfl
      · rw [decide_eq_false h2, decide_eq_true (show (100 : Int) < (j : Int) by omega)]; rfl
    · rw [decide_eq_false h1, decide_eq_true (show (100 : Int) < ((L.getD j []).length : Int) by omega)]; rfl
  have : At (Bj L) (0 : Int) = _ := Gn (Bj L) (fun j => ((j : Nat) : Int)) (fun i => decide ((L.getD i []).length ≤ 100) && decide (i ≤ 100)) (.inl ()) (.inr false) L.length (fun j hj hp => ?_) (fun j hj hp => ?_) ?_
  · rw [this]; unfold Sy
    cases (List.range L.length).all fun i => decide ((L.getD i []).length ≤ 100) && decide (i ≤ 100) <;> rfl
  · show Bj L (j : Int) = _
    rw [step j hj, hp]; rfl
  · show Bj L (j : Int) = _
    rw [step j hj, hp]; rfl
  · show Bj L _ = _
    unfold Bj; simp only [Ee, cond_false]
theorem Wf {L : List (List Int)} (h : Sy L = true) : Fits L := by
  unfold Sy at h; rw [all_range] at h; simp only [Bool.and_eq_true, decide_eq_true_eq] at h; refine Qx ⟨?_, fun l hl => ?_⟩
  · by_cases h0 : L.length = 0
    · omega
    · have := (h (L.length - 1) (by omega)).2; omega
  · obtain ⟨i, hi, rfl⟩ := List.getElem_of_mem hl; have := (h i hi).1; rw [Ag _ _ _ hi] at this; omega
end
end Go.Proofs.Ytjpacggpipflcaa

namespace Go.Proofs.Ytjpacggpipflcaa
noncomputable section
open Go Go.RowKit
set_option linter.unusedVariables false
set_option linter.unusedSimpArgs false
def upd (s : Nat → Bool) (y : Nat) : Nat → Bool := fun z => decide (z = y) || s z
theorem upd_true {s : Nat → Bool} {y z : Nat} : upd s y z = true ↔ z = y ∨ s z = true := by simp [upd]
theorem upd_false {s : Nat → Bool} {y z : Nat} : upd s y z = false ↔ z ≠ y ∧ s z = false := by simp [upd]
inductive VL (S : Nat → List Nat) : (Nat → Bool) → List Nat → (Nat → Bool) → List Nat → Prop
  | nil (s : Nat → Bool) : VL S s [] s []
  | skip {s s' : Nat → Bool} {y : Nat} {l o : List Nat} (h : s y = true) (t : VL S s l s' o) : VL S s (y :: l) s' o
  | step {s s1 s2 : Nat → Bool} {y : Nat} {l o1 o2 : List Nat} (h : s y = false) (a : VL S (upd s y) (S y) s1 o1) (b : VL S s1 l s2 o2) : VL S s (y :: l) s2 (o1 ++ y :: o2)
inductive Rch (S : Nat → List Nat) : Nat → Nat → Prop
  | refl (x : Nat) : Rch S x x
  | head {x y z : Nat} (h : y ∈ S x) (t : Rch S y z) : Rch S x z
theorem Rch.tail {S : Nat → List Nat} {x y z : Nat} (h : Rch S x y) (hz : z ∈ S y) : Rch S x z := by
  induction h with
  | refl x => exact .head hz (.refl _)
  | head h _ ih => exact .head h (ih hz)
theorem Rch.trans {S : Nat → List Nat} {x y z : Nat} (h : Rch S x y) (k : Rch S y z) : Rch S x z := by
  induction h with
  | refl x => exact k
  | head h _ ih => exact .head h (ih k)
variable {S : Nat → List Nat} {s s' : Nat → Bool} {l o : List Nat}
theorem VL.seen (h : VL S s l s' o) (z : Nat) : s' z = true ↔ s z = true ∨ z ∈ o := by
  induction h with
  | nil s => simp
  | skip h _ ih => exact ih
  | @step s s1 s2 y l o1 o2 h a b iha ihb =>
    rw [ihb, iha, upd_true]; simp only [List.mem_append, List.mem_cons]
    constructor
    · rintro ((( rfl | h1) | h1) | h1)
      · exact .inr (.inr (.inl rfl))
      · exact .inl h1
      · exact .inr (.inl h1)
      · exact .inr (.inr (.inr h1))
    · rintro (h1 | h1 | rfl | h1)
      · exact .inl (.inl (.inr h1))
      · exact .inl (.inr h1)
      · exact .inl (.inl (.inl rfl))
      · exact .inr h1
theorem VL.fresh (h : VL S s l s' o) {z : Nat} (hz : z ∈ o) : s z = false := by
  induction h with
  | nil s => cases hz
  | skip h _ ih => exact ih hz
  | @step s s1 s2 y l o1 o2 h a b iha ihb =>
    rcases List.mem_append.1 hz with h1 | h1
    · exact (upd_false.1 (iha h1)).2
    · rcases List.mem_cons.1 h1 with rfl | h1
      · exact h
      · have := ihb h1
        cases hs : s z with
        | false => rfl
        | true => rw [(a.seen z).2 (.inl (upd_true.2 (.inr hs)))] at this; cases this
theorem VL.nodup (h : VL S s l s' o) : o.Nodup := by
  induction h with
  | nil s => exact List.nodup_nil
  | skip h _ ih => exact ih
  | @step s s1 s2 y l o1 o2 h a b iha ihb =>
    rw [List.nodup_append]; refine ⟨iha, List.nodup_cons.2 ⟨fun hy => ?_, ihb⟩, fun u hu v hv => ?_⟩
    · have := b.fresh hy; rw [(a.seen y).2 (.inl (upd_true.2 (.inl rfl)))] at this
      cases this
    · rintro rfl; rcases List.mem_cons.1 hv with rfl | hv
      · have := a.fresh hu; rw [upd_true.2 (.inl rfl)] at this
        cases this
      · have := b.fresh hv; rw [(a.seen u).2 (.inr hu)] at this
        cases this
theorem VL.rch (h : VL S s l s' o) {z : Nat} (hz : z ∈ o) : ∃ y ∈ l, Rch S y z := by
  induction h with
  | nil s => cases hz
  | skip h _ ih => obtain ⟨y, hy, hr⟩ := ih hz; exact ⟨y, List.mem_cons_of_mem _ hy, hr⟩
  | @step s s1 s2 y l o1 o2 h a b iha ihb =>
    rcases List.mem_append.1 hz with h1 | h1
    · obtain ⟨u, hu, hr⟩ := iha h1; exact ⟨y, List.mem_cons_self .., .head hu hr⟩
    · rcases List.mem_cons.1 h1 with rfl | h1
      · exact ⟨z, List.mem_cons_self .., .refl z⟩
      · obtain ⟨u, hu, hr⟩ := ihb h1; exact ⟨u, List.mem_cons_of_mem _ hu, hr⟩
theorem VL.closed (h : VL S s l s' o) : (∀ y ∈ l, s' y = true) ∧ ∀ z ∈ o, ∀ y ∈ S z, s' y = true := by
  induction h with
  | nil s => exact ⟨(fun _ h => by cases h), (fun _ h => by cases h)⟩
  | @skip s s' y l o h t ih =>
    refine ⟨fun u hu => ?_, ih.2⟩; rcases List.mem_cons.1 hu with rfl | hu
    · exact (t.seen u).2 (.inl h)
    · exact ih.1 u hu
  | @step s s1 s2 y l o1 o2 h a b iha ihb =>
    refine ⟨fun u hu => ?_, fun z hz u hu => ?_⟩
    · rcases List.mem_cons.1 hu with rfl | hu
      · exact (b.seen u).2 (.inl ((a.seen u).2 (.inl (upd_true.2 (.inl rfl)))))
      · exact ihb.1 u hu
    · rcases List.mem_append.1 hz with h1 | h1
      · exact (b.seen u).2 (.inl (iha.2 z h1 u hu))
      · rcases List.mem_cons.1 h1 with rfl | h1
        · exact (b.seen u).2 (.inl (iha.1 u hu))
        · exact ihb.2 z h1 u hu
theorem VL.above (h : VL S s l s' o) (hf : ∀ z, ∀ y ∈ S z, z < y) {b : Nat} (hb : ∀ y ∈ l, b < y) : ∀ z ∈ o, b < z := by
  induction h generalizing b with
  | nil s => intro z hz; cases hz
  | skip h _ ih => exact ih (fun y hy => hb y (List.mem_cons_of_mem _ hy))
  | @step s s1 s2 y l o1 o2 h a c iha ihb =>
    intro z hz; have hy := hb y (List.mem_cons_self ..); rcases List.mem_append.1 hz with h1 | h1
    · exact iha (fun u hu => Nat.lt_trans hy (hf y u hu)) z h1
    · rcases List.mem_cons.1 h1 with rfl | h1
      · exact hy
      · exact ihb (fun u hu => hb u (List.mem_cons_of_mem _ hu)) z h1
theorem VL.ahead (h : VL S s l s' o) (hf : ∀ z, ∀ y ∈ S z, z < y) : ∀ z ∈ o, ∀ y ∈ S z, s y = true ∨ ∃ A B, o = A ++ z :: B ∧ y ∈ A := by
  induction h with
  | nil s => intro z hz; cases hz
  | skip h _ ih => exact ih
  | @step s s1 s2 y l o1 o2 h a c iha ihb =>
    intro z hz u hu; rcases List.mem_append.1 hz with h1 | h1
    · have hzy : y < z := a.above hf (fun v hv => hf y v hv) z h1; have hzu := hf z u hu; rcases iha z h1 u hu with h2 | ⟨A, B, rfl, hA⟩
      · rcases upd_true.1 h2 with rfl | h2
        · omega
        · exact .inl h2
      · exact .inr ⟨A, B ++ y :: o2, by simp, hA⟩
    · rcases List.mem_cons.1 h1 with rfl | h1z
      · have hzu := hf z u hu; rcases (a.seen u).1 (a.closed.1 u hu) with h2 | h2
        · rcases upd_true.1 h2 with rfl | h2
          · omega
          · exact .inl h2
        · exact .inr ⟨o1, o2, rfl, h2⟩
      · rcases ihb z h1z u hu with h2 | ⟨A, B, rfl, hA⟩
        · rcases (a.seen u).1 h2 with h3 | h3
          · rcases upd_true.1 h3 with rfl | h3
            · obtain ⟨P, Q, rfl⟩ := List.append_of_mem h1z; exact .inr ⟨o1 ++ u :: P, Q, by simp, by simp⟩
            · exact .inl h3
          · obtain ⟨P, Q, rfl⟩ := List.append_of_mem h1z; exact .inr ⟨o1 ++ y :: P, Q, by simp, by simp [h3]⟩
        · exact .inr ⟨o1 ++ y :: A, B, by simp, by simp [hA]⟩
def Tn (n : Nat) (s : Nat → Bool) : Nat := ((List.range n).filter fun z => !s z).length
theorem Kq {n : Nat} {s : Nat → Bool} {y : Nat} (hy : y < n) (h : s y = false) : Tn n (upd s y) + 1 = Tn n s := by
  unfold Tn
  induction n with
  | zero => omega
  | succ n ih =>
    rw [List.range_succ, List.filter_append, List.filter_append, List.length_append, List.length_append]
    by_cases hyn : y = n
    · subst hyn
      have e : (List.range y).filter (fun z => !upd s y z) = (List.range y).filter (fun z => !s z) := by
        apply List.filter_congr
        intro z hz; have := List.mem_range.1 hz; simp [upd, show z ≠ y by omega]
      rw [e]; simp [upd, h]
    · have := ih (by omega)
      have e : ([n].filter fun z => !upd s y z).length = ([n].filter fun z => !s z).length := by
        simp only [List.filter_cons, List.filter_nil, upd]; simp [Ne.symm hyn]
      omega
theorem Wp {n : Nat} {s s' : Nat → Bool} (h : ∀ z, s z = true → s' z = true) : Tn n s' ≤ Tn n s := by
  unfold Tn
  apply List.Sublist.length_le
  have : (List.range n).filter (fun z => !s' z) = ((List.range n).filter fun z => !s z).filter fun z => !s' z := by
    rw [List.filter_filter]
    apply List.filter_congr
    intro z _
    cases hs : s z with
    | false => simp
    | true => simp [h z hs]
  rw [this]; exact List.filter_sublist
theorem VL.exist {n : Nat} (hS : ∀ z, z < n → ∀ y ∈ S z, y < n) : ∀ (m : Nat) (s : Nat → Bool), Tn n s ≤ m → ∀ l : List Nat, (∀ y ∈ l, y < n) → ∃ s' o, VL S s l s' o := by
  intro m
  induction m with
  | zero =>
    intro s hm l
    induction l with
    | nil => intro _; exact ⟨s, [], .nil s⟩
    | cons y l ih =>
      intro hl; obtain ⟨s', o, h⟩ := ih (fun z hz => hl z (List.mem_cons_of_mem _ hz))
      cases hy : s y with
      | true => exact ⟨s', o, .skip hy h⟩
      | false => have := Kq (hl y (List.mem_cons_self ..)) hy; omega
  | succ m ih =>
    intro s hm l
    induction l generalizing s with
    | nil => intro _; exact ⟨s, [], .nil s⟩
    | cons y l ihl =>
      intro hl
      cases hy : s y with
      | true =>
        obtain ⟨s', o, h⟩ := ihl s hm (fun z hz => hl z (List.mem_cons_of_mem _ hz)); exact ⟨s', o, .skip hy h⟩
      | false =>
        have hyn := hl y (List.mem_cons_self ..); have := Kq hyn hy; obtain ⟨s1, o1, h1⟩ := ih (upd s y) (by omega) (S y) (hS y hyn); have h2 : Tn n s1 ≤ Tn n s := Wp fun z hz => (h1.seen z).2 (.inl (upd_true.2 (.inr hz))); obtain ⟨s2, o2, h3⟩ := ihl s1 (by omega) (fun z hz => hl z (List.mem_cons_of_mem _ hz)); exact ⟨s2, _, .step hy h1 h3⟩
def one (r : Nat) : Nat → Bool := fun z => decide (z = r)
def Ord (S : Nat → List Nat) (r : Nat) (L : List Nat) : Prop := ∃ s' o, VL S (one r) (S r) s' o ∧ L = r :: o.reverse
theorem Ord.exist {n : Nat} (hS : ∀ z, z < n → ∀ y ∈ S z, y < n) {r : Nat} (hr : r < n) : ∃ L, Ord S r L := by
  obtain ⟨s', o, h⟩ := VL.exist hS _ (one r) (Nat.le_refl _) (S r) (hS r hr); exact ⟨_, s', o, h, rfl⟩
theorem Ord.mem {r : Nat} {L : List Nat} (h : Ord S r L) (z : Nat) : z ∈ L ↔ Rch S r z := by
  obtain ⟨s', o, h, rfl⟩ := h
  have hs : ∀ z, s' z = true ↔ z = r ∨ z ∈ o := fun z => by rw [h.seen]; simp [one]
  have hc : ∀ x, s' x = true → ∀ y ∈ S x, s' y = true := fun x hx y hy => by
    rcases (hs x).1 hx with rfl | hx
    · exact h.closed.1 y hy
    · exact h.closed.2 x hx y hy
  simp only [List.mem_cons, List.mem_reverse]; rw [← hs z]
  constructor
  · intro hz; rcases (hs z).1 hz with rfl | hz
    · exact .refl _
    · obtain ⟨y, hy, hr⟩ := h.rch hz; exact .head hy hr
  · intro hr
    have key : ∀ x z, Rch S x z → s' x = true → s' z = true := by
      intro x z hxz
      induction hxz with
      | refl x => exact id
      | head hy _ ih => exact fun hx => ih (hc _ hx _ hy)
    exact key r z hr ((hs r).2 (.inl rfl))
theorem Ord.nodup {r : Nat} {L : List Nat} (h : Ord S r L) : L.Nodup := by
  obtain ⟨s', o, h, rfl⟩ := h; refine List.nodup_cons.2 ⟨fun hr => ?_, (List.reverse_perm o).nodup_iff.2 h.nodup⟩; have := h.fresh (List.mem_reverse.1 hr); simp [one] at this
theorem Ord.fwd {r : Nat} {L : List Nat} (h : Ord S r L) (hf : ∀ z, ∀ y ∈ S z, z < y) : ∀ z ∈ L, ∀ y ∈ S z, ∃ A B, L = A ++ z :: B ∧ y ∈ B := by
  obtain ⟨s', o, h, rfl⟩ := h; intro z hz y hy; have hzy := hf z y hy; rcases List.mem_cons.1 hz with rfl | hz
  · refine ⟨[], o.reverse, rfl, ?_⟩; rcases (h.seen y).1 (h.closed.1 y hy) with h1 | h1
    · simp [one] at h1; omega
    · exact List.mem_reverse.2 h1
  · have hz := List.mem_reverse.1 hz; have hrz : r < z := h.above hf (fun v hv => hf r v hv) z hz; rcases h.ahead hf z hz y hy with h1 | ⟨A, B, rfl, hA⟩
    · simp [one] at h1; omega
    · exact ⟨r :: B.reverse, A.reverse, by simp, List.mem_reverse.2 hA⟩
end
end Go.Proofs.Ytjpacggpipflcaa

namespace Go.Proofs.Ytjpacggpipflcaa
noncomputable section
open Go Go.RowKit
set_option linter.unusedVariables false
set_option linter.unusedSimpArgs false
theorem m_reverse (l : List Int) (hl : l.length < 4611686018427387904) : Cq l = some l.reverse := by
  unfold Cq
  by_cases h0 : l.length = 0
  · obtain rfl : l = [] := List.length_eq_zero_iff.1 h0
    have : At A5 ((0 : Int), (Bg ((([] : List Int).length : Int) - 1)), ([] : List Int)) = some [] := by
      apply A6
      unfold A5; rw [J9 (by simp) (by simp)]
      rfl
    rw [this]; rfl
  · have hw : Bg ((l.length : Int) - 1) = ((l.length - 1 : Nat) : Int) := by rw [J9 (by omega) (by omega)]; omega
    rw [hw]
    let C : Nat → List Int := fun k => (List.range l.length).map fun i => if i < k ∨ l.length - 1 - k < i then l.getD (l.length - 1 - i) 0 else l.getD i 0
    have hC : ∀ k i, i < l.length → (C k).getD i 0 = if i < k ∨ l.length - 1 - k < i then l.getD (l.length - 1 - i) 0 else l.getD i 0 := fun k i hi => by simp only [C]; rw [I9 hi]
    have hlen : ∀ k, (C k).length = l.length := fun k => by simp [C]
    have := Dc A5 (fun k => (((k : Nat) : Int), ((l.length - 1 - k : Nat) : Int), C k)) l.reverse (l.length / 2) (fun k hk => ?_) ?_
    · have e0 : C 0 = l := by
        apply List.ext_getElem (by simp [C])
        intro i h1 h2; have := hC 0 i h2; rw [Ag _ _ _ h1, Ag _ _ _ h2] at this; rw [this, if_neg (by omega)]
      have this' : At A5 ((0 : Int), ((l.length - 1 : Nat) : Int), l) = some l.reverse := by
        have h2 := this; simp only [e0] at h2; exact h2
      rw [this']; rfl
    · show A5 (_, _, _) = _
      unfold A5
      have hlt : k < l.length - 1 - k := by omega
      simp only [Cs hlt, cond_true, Aq]; rw [Ac (Dn (by rw [hlen]; omega)), Ac (Dn (by rw [hlen]; omega)), Ac (Dn (by rw [hlen]; omega)), Ac (Dn (by rw [hlen]; omega))]; rw [w1 (by omega), show Bg (((l.length - 1 - k : Nat) : Int) - 1) = ((l.length - 1 - (k + 1) : Nat) : Int) by rw [J9 (by omega) (by omega)]; omega]
      congr 4
      rw [hC k _ (by omega), hC k _ (by omega), if_neg (by omega), if_neg (by omega)]; simp only [C]; rw [Pj, Pj]
      apply Gx
      intro i hi
      by_cases h1 : i = k
      · subst h1; rw [if_neg (by omega), if_pos rfl, if_pos (by omega)]
      · by_cases h2 : i = l.length - 1 - k
        · subst h2; rw [if_pos rfl, if_pos (by omega)]
          congr 1; omega
        · rw [if_neg h2, if_neg h1]
          by_cases h3 : i < k ∨ l.length - 1 - k < i
          · rw [if_pos h3, if_pos (by omega)]
          · rw [if_neg h3, if_neg (by omega)]
    · show A5 (_, _, _) = _
      unfold A5; have hd : decide (((l.length / 2 : Nat) : Int) < ((l.length - 1 - l.length / 2 : Nat) : Int)) = false := decide_eq_false (by omega); simp only [hd, cond_false]
      congr 2
      apply List.ext_getElem (by simp [C])
      intro i h1 h2
      have h3 : i < l.length := by simpa [C] using h1
      have := hC (l.length / 2) i h3; rw [Ag _ _ _ h1] at this; rw [this, List.getElem_reverse]
      split
      · rw [Ag _ _ _ (by omega)]
      · rw [Ag _ _ _ h3]
        congr 1; omega
theorem top {st : List Int} {a : Int} (h : st.length < 4611686018427387904) : (st ++ [a]).getD (Bg (((st ++ [a]).length : Int) - 1)).toNat 0 = a := by
  have : Bg (((st ++ [a]).length : Int) - 1) = ((st.length : Nat) : Int) := by rw [List.length_append, List.length_singleton, J9 (by omega) (by omega)]; omega
  rw [this, Aq]; simp [List.getD]
theorem topi {st : List Int} {a : Int} (h : st.length < 4611686018427387904) : Bg (((st ++ [a]).length : Int) - 1) = ((st.length : Nat) : Int) := by
  rw [List.length_append, List.length_singleton, J9 (by omega) (by omega)]; omega
theorem L2_done {g : An} {R : List Bool} {st T : List Int} {a : Nat} (hst : st.length < 64) (ha : a < g.Succ.length) (h64 : g.Succ.length ≤ 64) (ht : T.getD a 0 = ((g.Succ.getD a []).length : Int)) :
    D5 g R (st ++ [(a : Int)]) T = some (.done (.inl T)) := by
  unfold D5; simp only [top (st := st) (a := (a : Int)) (by omega), Aq]; rw [Ac (Dn (by omega)), Ac (Dn ha), ht, Ee, cond_false]
theorem L2_step {g : An} {R : List Bool} {st T : List Int} {a t y : Nat} (hst : st.length < 64) (ha : a < g.Succ.length) (h64 : g.Succ.length ≤ 64) (ht : T.getD a 0 = (t : Int)) (htl : t < (g.Succ.getD a []).length) (htm : t < 64)
    (hy : (g.Succ.getD a []).getD t 0 = (y : Int)) (hyn : y < g.Succ.length) :
    D5 g R (st ++ [(a : Int)]) T = bif R.getD y false then some (.next (Dx 64 (0 : Int) T a ((t + 1 : Nat) : Int))) else some (.done (.inr (Dx 64 false R y true, Dx 64 (0 : Int) T a ((t + 1 : Nat) : Int), (st ++ [(a : Int)]) ++ [(y : Int)]))) := by
  have hroom : (1000 : Nat) ≤ room := by decide
  unfold D5; simp only [top (st := st) (a := (a : Int)) (by omega), Aq, ht, hy]; rw [Ac (Dn (by omega)), Ac (Dn ha), Cs htl, cond_true, Ac (Dn ha), Ac (Dn (by omega)), Ac (Dn htl), Ac (Dn (by omega)), Ac (Dn (by omega)), Ac (Dn (by omega)), w1 (by omega)]
  cases R.getD y false with
  | true => rfl
  | false =>
    simp only [Bool.not_false, cond_true, cond_false]; rw [Ac (Dn (by omega)), Ac (by rw [List.length_append, List.length_singleton, List.length_singleton]; omega)]
theorem F3_eq {g : An} {R : List Bool} {st T Lf : List Int} {a : Nat} (hst : st.length < 64) (hLf : Lf.length < 64) :
    Ce g (R, T, st ++ [(a : Int)], Lf) = (At (D5 g R (st ++ [(a : Int)])) T).bind fun x => match x with
      | .inl T' => if st = [] then some (.done (Lf ++ [(a : Int)]).reverse) else some (.next (R, T', st, Lf ++ [(a : Int)]))
      | .inr (R', T', st') => some (.next (R', T', st', Lf)) := by
  have hroom : (1000 : Nat) ≤ room := by decide
  unfold Ce; simp only
  have hb : A4 (Bg (((st ++ [(a : Int)]).length : Int) - 1)) (st ++ [(a : Int)]).length := by rw [topi (by omega)]; exact Dn (by simp)
  rw [Ac hb]
  congr 1
  funext x
  cases x with
  | inr y => obtain ⟨R', T', st'⟩ := y; rfl
  | inl T' =>
    simp only [top (st := st) (a := (a : Int)) (by omega)]; rw [topi (by omega), Aq, Ac (by rw [List.length_singleton]; omega), Ac ⟨by omega, by simp⟩]; have e : (st ++ [(a : Int)]).take st.length = st := List.take_left' rfl; rw [e]
    cases st with
    | nil =>
      rw [if_pos rfl]
      have : decide ((0 : Int) < (([] : List Int).length : Int)) = false := by decide
      rw [this, cond_false, m_reverse _ (by simp; omega)]; simp only [Option.bind_some]; rw [Ac (by simp)]
    | cons b st' =>
      rw [if_neg (by simp)]; have : decide ((0 : Int) < ((b :: st').length : Int)) = true := decide_eq_true (by simp <;> omega); rw [this, cond_true]
theorem Zz {S X : Type} {f : S → Option (LR S X)} {a b : S} (h : f a = f b) : At f a = At f b := by
  cases hb : f b with
  | none => rw [Nu (h.trans hb), Nu hb]
  | some r => cases r with
    | done x => rw [A6 (h.trans hb), A6 hb]
    | next s => rw [Bu (h.trans hb), Bu hb]
theorem Li {S X : Type} {f : S → Option (LR S X)} {s : S} : Ki (f s) f = At f s := by
  unfold Ki
  cases hb : f s with
  | none => rw [Nu hb]; rfl
  | some r => cases r with
    | done x => rw [A6 hb]; rfl
    | next s' => rw [Bu hb]; rfl
def sN (L : List (List Int)) (k : Nat) : List Nat := (L.getD k []).map Int.toNat
def RelS (R : List Bool) (s : Nat → Bool) : Prop := ∀ z, z < 64 → R.getD z false = s z
theorem G5 {α : Type} {d : α} {l : List α} {i : Nat} {x : α} {k : Nat} (hk : k < 64) : (Dx 64 d l i x).getD k d = if k = i then x else l.getD k d := by
  rw [Uh hk]
  by_cases h : k = i
  · subst h; simp
  · have : Nat.beq k i = false := by cases hb : Nat.beq k i with | false => rfl | true => exact absurd (Nat.eq_of_beq_eq_true hb) h
    rw [this, if_neg h]; rfl
theorem RelS.set {R : List Bool} {s : Nat → Bool} (h : RelS R s) {y : Nat} : RelS (Dx 64 false R y true) (upd s y) := fun z hz => by
  rw [G5 hz, h z hz]
  by_cases hzy : z = y
  · simp [upd, hzy]
  · simp [upd, hzy]
def Gs (o : List Nat) : List Int := o.map Int.ofNat
theorem order_main {g : An} (hm : Ez g.Succ = true) {s s' : Nat → Bool} {l o : List Nat} (hv : VL (sN g.Succ) s l s' o) :
    ∀ (R : List Bool) (T st Lf : List Int) (a t : Nat), RelS R s → a < g.Succ.length → l = (sN g.Succ a).drop t → T.getD a 0 = (t : Int) → t ≤ (sN g.Succ a).length → s a = true → (∀ z, z < 64 → s z = false → T.getD z 0 = 0) →
      Lf.length + Tn 64 s + st.length + 1 ≤ 64 →
      ∃ (R' : List Bool) (T' : List Int), RelS R' s' ∧ (∀ z, z < 64 → s' z = false → T'.getD z 0 = 0) ∧ (∀ z, z < 64 → s z = true → z ≠ a → T'.getD z 0 = T.getD z 0) ∧ Lf.length + o.length + Tn 64 s' + st.length + 1 ≤ 64 ∧
        At (Ce g) (R, T, st ++ [(a : Int)], Lf) = if st = [] then some (Lf ++ Gs o ++ [(a : Int)]).reverse else At (Ce g) (R', T', st, Lf ++ Gs o ++ [(a : Int)]) := by
  obtain ⟨hL1, hL64, hLok⟩ := mayS_iff.1 hm
  have hlenS : ∀ a, (sN g.Succ a).length = (g.Succ.getD a []).length := fun a => by simp [sN]
  have hdrop : ∀ (a t y : Nat) (l' : List Nat), a < g.Succ.length → y :: l' = (sN g.Succ a).drop t → t < (g.Succ.getD a []).length ∧ (g.Succ.getD a []).getD t 0 = (y : Int) ∧ y < g.Succ.length ∧ l' = (sN g.Succ a).drop (t + 1) := fun a t y l' ha he => by
    have ht : t < (sN g.Succ a).length := by
      rcases Nat.lt_or_ge t (sN g.Succ a).length with h | h
      · exact h
      · rw [List.drop_eq_nil_of_le h] at he; cases he
    rw [List.drop_eq_getElem_cons ht] at he; simp only [List.cons.injEq] at he; obtain ⟨h1, h2⟩ := he
    have ht' : t < (g.Succ.getD a []).length := by rw [← hlenS]; exact ht
    obtain ⟨b0, b1⟩ := Nw (hLok a ha) ht'
    have h3 : (sN g.Succ a)[t] = ((g.Succ.getD a []).getD t 0).toNat := by rw [Ag _ _ _ ht']; simp [sN]
    exact ⟨ht', by omega, by omega, h2⟩
  induction hv with
  | nil s =>
    intro R T st Lf a t hR ha hl hT htl hsa hz hc
    have ht : t = (g.Succ.getD a []).length := by
      have := congrArg List.length hl; simp at this; rw [hlenS] at htl this; omega
    refine ⟨R, T, hR, hz, fun _ _ _ _ => rfl, by simpa using hc, ?_⟩
    have hF : Ce g (R, T, st ++ [(a : Int)], Lf) = if st = [] then some (.done (Lf ++ [(a : Int)]).reverse) else some (.next (R, T, st, Lf ++ [(a : Int)])) := by
      rw [F3_eq (by omega) (by omega), A6 (L2_done (by omega) ha hL64 (by rw [hT, ht]))]
      rfl
    by_cases hst : st = []
    · rw [if_pos hst] at hF ⊢; rw [A6 hF]; simp [Gs]
    · rw [if_neg hst] at hF ⊢; rw [Bu hF]; simp [Gs]
  | @skip s s' y l o h tl ih =>
    intro R T st Lf a t hR ha hl hT htl hsa hz hc; obtain ⟨h1, h2, h3, h4⟩ := hdrop a t y l ha hl; have hb := Jg (hLok a ha); have hs := L2_step (g := g) (R := R) (st := st) (T := T) (a := a) (t := t) (y := y) (by omega) ha hL64 hT h1 (by omega) h2 h3; rw [hR y (by omega), h, cond_true] at hs; obtain ⟨R', T', a1, a2, a3, a4, a5⟩ := ih R (Dx 64 (0 : Int) T a ((t + 1 : Nat) : Int)) st Lf a (t + 1) hR ha h4 (by rw [G5 (by omega), if_pos rfl]) (by rw [hlenS]; omega) hsa
      (fun z hz1 hz2 => by rw [G5 hz1, if_neg (by rintro rfl; rw [hsa] at hz2; cases hz2)]; exact hz z hz1 hz2) hc
    refine ⟨R', T', a1, a2, fun z hz1 hz2 hz3 => by rw [a3 z hz1 hz2 hz3, G5 hz1, if_neg hz3], a4, ?_⟩; rw [← a5]
    apply Zz
    rw [F3_eq (by omega) (by omega), F3_eq (by omega) (by omega), Bu hs]
  | @step s s1 s2 y l o1 o2 h tl tr ih1 ih2 =>
    intro R T st Lf a t hR ha hl hT htl hsa hz hc; obtain ⟨h1, h2, h3, h4⟩ := hdrop a t y l ha hl; have hb := Jg (hLok a ha)
    have hay : y ≠ a := by rintro rfl; rw [hsa] at h; cases h
    have hs := L2_step (g := g) (R := R) (st := st) (T := T) (a := a) (t := t) (y := y) (by omega) ha hL64 hT h1 (by omega) h2 h3; rw [hR y (by omega), h, cond_false] at hs; have hcu := Kq (n := 64) (show y < 64 by omega) h
    have hF : Ce g (R, T, st ++ [(a : Int)], Lf) = some (.next (Dx 64 false R y true, Dx 64 (0 : Int) T a ((t + 1 : Nat) : Int), (st ++ [(a : Int)]) ++ [(y : Int)], Lf)) := by
      rw [F3_eq (by omega) (by omega), A6 hs]
      rfl
    obtain ⟨R1, T1, b1, b2, b3, b4, b5⟩ := ih1 (Dx 64 false R y true) (Dx 64 (0 : Int) T a ((t + 1 : Nat) : Int)) (st ++ [(a : Int)]) Lf y 0 hR.set h3 (by simp)
      (by rw [G5 (by omega), if_neg hay]; exact hz y (by omega) h) (Nat.zero_le _) (upd_true.2 (.inl rfl))
      (fun z hz1 hz2 => by
        obtain ⟨c1, c2⟩ := upd_false.1 hz2; rw [G5 hz1, if_neg (by rintro rfl; rw [hsa] at c2; cases c2)]
        exact hz z hz1 c2) (by rw [List.length_append, List.length_singleton]; omega)
    rw [if_neg (by simp)] at b5
    have hTa : T1.getD a 0 = ((t + 1 : Nat) : Int) := by rw [b3 a (by omega) (upd_true.2 (.inr hsa)) (Ne.symm hay), G5 (by omega), if_pos rfl]
    rw [List.length_append, List.length_singleton] at b4; obtain ⟨R2, T2, c1, c2, c3, c4, c5⟩ := ih2 R1 T1 st (Lf ++ Gs o1 ++ [(y : Int)]) a (t + 1) b1 ha h4 hTa (by rw [hlenS]; omega) ((tl.seen a).2 (.inl (upd_true.2 (.inr hsa)))) b2
      (by simp only [List.length_append, List.length_singleton, Gs, List.length_map]; omega)
    refine ⟨R2, T2, c1, c2, fun z hz1 hz2 hz3 => ?_, ?_, ?_⟩
    · rw [c3 z hz1 ((tl.seen z).2 (.inl (upd_true.2 (.inr hz2)))) hz3, b3 z hz1 (upd_true.2 (.inr hz2)) (by rintro rfl; rw [h] at hz2; cases hz2), G5 hz1, if_neg hz3]
    · simp only [List.length_append, List.length_singleton, Gs, List.length_map, List.length_cons] at c4 ⊢; omega
    · rw [Bu hF, b5, c5]
      have e : Lf ++ Gs o1 ++ [(y : Int)] ++ Gs o2 ++ [(a : Int)] = Lf ++ Gs (o1 ++ y :: o2) ++ [(a : Int)] := by simp [Gs]
      rw [e]
theorem I5 {L : List (List Int)} (h : Ez L = true) : ∀ z, z < L.length → ∀ y ∈ sN L z, y < L.length := fun z hz y hy => by
  obtain ⟨_, _, h3⟩ := mayS_iff.1 h; obtain ⟨x, hx, rfl⟩ := List.mem_map.1 hy; have := H5 (h3 z hz) hx; omega
theorem cnt_one {r : Nat} (hr : r < 64) : Tn 64 (one r) = 63 := by
  have h := Kq (n := 64) (s := fun _ => false) hr rfl
  have e : upd (fun _ => false) r = one r := by funext z; simp [upd, one]
  rw [e] at h
  have : Tn 64 (fun _ => false) = 64 := by decide
  omega
theorem Gh {α : Type} {n z : Nat} {d : α} : (List.replicate n d).getD z d = d := by rw [List.getD_eq_getElem?_getD, List.getElem?_replicate]; split <;> rfl
theorem Qs (g : An) (h : Fits g.Succ) (hP : True) (r : Int) :
    (H9 g = true → 0 ≤ r → r < (g.Succ.length : Int) → ∀ L, Ord (sN g.Succ) r.toNat L → Dd g r = some (Gs L)) ∧
    ((H9 g && (decide (0 ≤ r) && decide (r < (g.Succ.length : Int)))) = false → Dd g r = some []) := by
  refine ⟨fun hm h0 h1 L hL => ?_, fun hf => ?_⟩
  · have hms : Ez g.Succ = true := by unfold H9 at hm; exact (Bool.and_eq_true _ _ ▸ hm).1
    obtain ⟨hL1, hL64, hLok⟩ := mayS_iff.1 hms; obtain ⟨s', o, hv, rfl⟩ := hL; have hrn : ((r.toNat : Nat) : Int) = r := Int.toNat_of_nonneg h0
    have hr : r.toNat < g.Succ.length := by omega
    obtain ⟨R', T', _, _, _, _, hmain⟩ := order_main hms hv (Dx 64 false (List.replicate 64 false) r.toNat true) (List.replicate 64 (0 : Int)) [] [] r.toNat 0
      (fun z hz => by rw [G5 hz, Gh]; by_cases hzr : z = r.toNat <;> simp [one, hzr]) hr (by simp) Gh (Nat.zero_le _) (by simp [one])
      (fun z hz _ => Gh) (by rw [cnt_one (by omega)]; simp)
    rw [if_pos rfl, hrn] at hmain; unfold Dd; rw [m_may _ h, hm, Option.bind_some]; simp only [Bool.not_true, beq_self_eq_true, cond_true, cond_false, Mf, decide_eq_true h0, decide_eq_true h1, Bool.and_self, Option.bind_some]; rw [Ac ⟨h0, by omega⟩]; have hF : ∀ X, At (Ce g) (Dx 64 false (List.replicate 64 false) r.toNat true, List.replicate 64 (0 : Int), [] ++ [r], []) = some X →
        (Ki (Ce g (Dx 64 false (List.replicate 64 false) r.toNat true, List.replicate 64 (0 : Int), [r], [])) (Ce g)).bind (fun x => some x) = some X := fun X hX => by
      rw [Li]; rw [List.nil_append] at hX; rw [hX]; rfl
    refine (hF _ hmain).trans ?_; simp only [List.nil_append, List.reverse_append, Gs, List.map_cons, List.map_reverse, List.reverse_cons, List.reverse_nil]
    simp
    omega
  · unfold Dd; rw [m_may _ h, Option.bind_some]
    cases hm : H9 g with
    | false => rfl
    | true =>
      rw [hm, Bool.true_and] at hf; simp only [Bool.not_true, beq_self_eq_true, cond_true, cond_false, Mf, hf, Option.bind_some, Bool.not_false]
      rfl
end
end Go.Proofs.Ytjpacggpipflcaa

namespace Go.Proofs.Ytjpacggpipflcaa
noncomputable section
open Go Go.RowKit
set_option linter.unusedVariables false
set_option linter.unusedSimpArgs false
def RelN (n : Nat) (R : List Bool) (s : Nat → Bool) : Prop := R.length = n ∧ ∀ z, z < n → R.getD z false = s z
theorem RelN.set {n : Nat} {R : List Bool} {s : Nat → Bool} (h : RelN n R s) {y : Nat} (hy : y < n) : RelN n (R.set y true) (upd s y) := by
  refine ⟨by rw [List.length_set]; exact h.1, fun z hz => ?_⟩; rw [List.getD_eq_getElem?_getD, List.getElem?_set]
  by_cases hzy : y = z
  · subst hzy; simp [upd, h.1, hy]
  · rw [if_neg hzy, ← List.getD_eq_getElem?_getD, h.2 z hz]; simp [upd, Ne.symm hzy]
theorem Ig : ∀ (n : Nat) (l : List Nat), l.Nodup → (∀ x ∈ l, x < n) → l.length ≤ n
  | 0, l, _, h => by
    cases l with
    | nil => simp
    | cons x l => have := h x (List.mem_cons_self ..); omega
  | n + 1, l, hd, h => by
    by_cases hn : n ∈ l
    · have h1 := Ig n (l.erase n) (hd.erase n) fun x hx => by
        have h2 := (hd.mem_erase_iff).1 hx; have := h x h2.2; have := h2.1; omega
      rw [List.length_erase_of_mem hn] at h1; omega
    · have h1 := Ig n l hd fun x hx => by
        have := h x hx
        have : x ≠ n := by rintro rfl; exact hn hx
        omega
      omega
end
end Go.Proofs.Ytjpacggpipflcaa

namespace Go.Proofs.Ytjpacggpipflcaa
noncomputable section
open Go Go.RowKit
set_option linter.unusedVariables false
set_option linter.unusedSimpArgs false
end
end Go.Proofs.Ytjpacggpipflcaa

namespace Go.Proofs.Ytjpacggpipflcaa
noncomputable section
open Go Go.RowKit
set_option linter.unusedVariables false
set_option linter.unusedSimpArgs false
theorem Np : ∀ {a b : List Int}, a.Pairwise (· < ·) → b.Pairwise (· < ·) → (∀ x, x ∈ a ↔ x ∈ b) → a = b
  | [], [], _, _, _ => rfl
  | [], y :: b, _, _, h => by have := (h y).2 (List.mem_cons_self ..); cases this
  | x :: a, [], _, _, h => by have := (h x).1 (List.mem_cons_self ..); cases this
  | x :: a, y :: b, ha, hb, h => by
    have ha' := List.pairwise_cons.1 ha; have hb' := List.pairwise_cons.1 hb
    have hxy : x = y := by
      rcases List.mem_cons.1 ((h x).1 (List.mem_cons_self ..)) with h1 | h1
      · exact h1
      · rcases List.mem_cons.1 ((h y).2 (List.mem_cons_self ..)) with h2 | h2
        · exact h2.symm
        · have := ha'.1 y h2; have := hb'.1 x h1; omega
    subst hxy
    congr 1
    refine Np ha'.2 hb'.2 fun z => ⟨fun hz => ?_, fun hz => ?_⟩
    · rcases List.mem_cons.1 ((h z).1 (List.mem_cons_of_mem _ hz)) with rfl | h1
      · have := ha'.1 z hz; omega
      · exact h1
    · rcases List.mem_cons.1 ((h z).2 (List.mem_cons_of_mem _ hz)) with rfl | h1
      · have := hb'.1 z hz; omega
      · exact h1
theorem Lt (p : Nat → Bool) (n : Nat) : (((List.range n).filter p).map Int.ofNat).Pairwise (· < ·) := by
  rw [List.pairwise_map]; have := (List.pairwise_lt_range (n := n)).filter p
  exact this.imp fun h => by simpa using h
theorem mem_filt {p : Nat → Bool} {n : Nat} {x : Int} : x ∈ ((List.range n).filter p).map Int.ofNat ↔ ∃ k : Nat, x = (k : Int) ∧ k < n ∧ p k = true := by
  simp only [List.mem_map, List.mem_filter, List.mem_range]
  constructor
  · rintro ⟨k, ⟨h1, h2⟩, rfl⟩; exact ⟨k, rfl, h1, h2⟩
  · rintro ⟨k, rfl, h1, h2⟩; exact ⟨k, ⟨h1, h2⟩, rfl⟩
theorem On {L : List (List Int)} {k i : Nat} : Ng L k i = true ↔ (i : Int) ∈ L.getD k [] := by unfold Ng; rw [List.contains_iff_mem]
theorem small_len {L : List (List Int)} (h : L.length ≤ maxLen) : L.length < 9223372036854775808 := by unfold maxLen at h; omega
theorem mayG_g0 : H9 g0 = false := by decide
end
end Go.Proofs.Ytjpacggpipflcaa

namespace Go.Proofs.Ytjpacggpipflcaa
noncomputable section
open Go Go.RowKit
set_option linter.unusedVariables false
set_option linter.unusedSimpArgs false
theorem mem_sN {L : List (List Int)} (h : Ez L = true) {x y : Nat} (hx : x < L.length) : y ∈ sN L x ↔ (y : Int) ∈ L.getD x [] := by
  obtain ⟨_, _, h3⟩ := mayS_iff.1 h; unfold sN; rw [List.mem_map]
  constructor
  · rintro ⟨z, hz, rfl⟩; have := H5 (h3 x hx) hz; rw [Int.toNat_of_nonneg this.1]; exact hz
  · intro hy; exact ⟨_, hy, Aq y⟩
theorem rch_lt {L : List (List Int)} (h : Ez L = true) {x y : Nat} (hr : Rch (sN L) x y) (hx : x < L.length) : y < L.length := by
  induction hr with
  | refl x => exact hx
  | head hy _ ih => exact ih (I5 h _ hx _ hy)
theorem ofN_at {l : List Nat} {i : Nat} (hi : i < l.length) : (Gs l).getD i 0 = ((l[i] : Nat) : Int) := by simp [Gs, List.getD, hi]
end
end Go.Proofs.Ytjpacggpipflcaa

namespace Go.Proofs.Ytjpacggpipflcaa
noncomputable section
open Go Go.RowKit
set_option linter.unusedVariables false
set_option linter.unusedSimpArgs false
end
end Go.Proofs.Ytjpacggpipflcaa

namespace Go.Proofs.Ytjpacggpipflcaa
noncomputable section
open Go Go.RowKit
set_option linter.unusedVariables false
set_option linter.unusedSimpArgs false
def mk (o : List Bool) (l : List Nat) : List Bool := l.foldl (fun o y => o.set y true) o
theorem mk_len (l : List Nat) : ∀ o : List Bool, (mk o l).length = o.length := by
  induction l with
  | nil => intro o; rfl
  | cons y l ih => intro o; show (mk (o.set y true) l).length = _; rw [ih, List.length_set]
theorem mk_at {n : Nat} (l : List Nat) : ∀ (o : List Bool), o.length = n → (∀ y ∈ l, y < n) → ∀ z, (mk o l).getD z false = true ↔ o.getD z false = true ∨ z ∈ l := by
  induction l with
  | nil => intro o _ _ z; simp [mk]
  | cons y l ih =>
    intro o ho hl z
    show (mk (o.set y true) l).getD z false = true ↔ _
    rw [ih (o.set y true) (by rw [List.length_set]; exact ho) (fun u hu => hl u (List.mem_cons_of_mem _ hu)) z]; have hy := hl y (List.mem_cons_self ..)
    have e : (o.set y true).getD z false = true ↔ o.getD z false = true ∨ z = y := by
      rw [List.getD_eq_getElem?_getD, List.getElem?_set, List.getD_eq_getElem?_getD]
      by_cases h : y = z
      · subst h; simp [ho, hy]
      · simp [h, Ne.symm h]
    rw [e, List.mem_cons]
    constructor
    · rintro ((h | h) | h)
      · exact .inl h
      · exact .inr (.inl h)
      · exact .inr (.inr h)
    · rintro (h | h | h)
      · exact .inl (.inl h)
      · exact .inl (.inr h)
      · exact .inr h
def sw (S : Nat → List Nat) (o : List Bool) : Nat → List Bool
  | 0 => o
  | i + 1 => if (sw S o i).getD i false = true then mk (sw S o i) (S i) else sw S o i
def R4 (S : Nat → List Nat) (n : Nat) (o : List Bool) : Nat → List Bool
  | 0 => o
  | j + 1 => sw S (R4 S n o j) n
section
variable {S : Nat → List Nat} {n : Nat} (hS : ∀ z, z < n → ∀ y ∈ S z, y < n)
theorem Lv (o : List Bool) : ∀ i, (sw S o i).length = o.length := by
  intro i
  induction i with
  | zero => rfl
  | succ i ih => unfold sw; split; rw [mk_len, ih]; exact ih
theorem Qp (o : List Bool) : ∀ j, (R4 S n o j).length = o.length := by
  intro j
  induction j with
  | zero => rfl
  | succ j ih => unfold R4; rw [Lv, ih]
include hS
theorem Qt {o : List Bool} (ho : o.length = n) : ∀ i, i ≤ n → ∀ z, o.getD z false = true → (sw S o i).getD z false = true := by
  intro i
  induction i with
  | zero => intro _ z h; exact h
  | succ i ih =>
    intro hi z h; unfold sw
    split
    · exact (mk_at (n := n) _ _ (by rw [Lv]; exact ho) (hS i (by omega)) z).2 (.inl (ih (by omega) z h))
    · exact ih (by omega) z h
theorem sw_sound {o : List Bool} {r : Nat} (ho : o.length = n) (h : ∀ z, o.getD z false = true → Rch S r z) : ∀ i, i ≤ n → ∀ z, (sw S o i).getD z false = true → Rch S r z := by
  intro i
  induction i with
  | zero => intro _ z hz; exact h z hz
  | succ i ih =>
    intro hi z hz; unfold sw at hz
    split at hz
    · rename_i hsi
      rcases (mk_at (n := n) _ _ (by rw [Lv]; exact ho) (hS i (by omega)) z).1 hz with h1 | h1
      · exact ih (by omega) z h1
      · exact (ih (by omega) i hsi).tail h1
    · exact ih (by omega) z hz
theorem sw_step {o : List Bool} (ho : o.length = n) : ∀ i, i ≤ n → ∀ j, j < i → o.getD j false = true → ∀ y ∈ S j, (sw S o i).getD y false = true := by
  intro i
  induction i with
  | zero => intro _ j hj; omega
  | succ i ih =>
    intro hi j hj hoj y hy; unfold sw
    by_cases hji : j = i
    · subst hji; have h1 := Qt hS ho j (by omega) j hoj; rw [if_pos h1]; exact (mk_at (n := n) _ _ (by rw [Lv]; exact ho) (hS j (by omega)) y).2 (.inr hy)
    · have h1 := ih (by omega) j (by omega) hoj y hy
      split
      · exact (mk_at (n := n) _ _ (by rw [Lv]; exact ho) (hS i (by omega)) y).2 (.inl h1)
      · exact h1
theorem sw_closed {o : List Bool} (ho : o.length = n) (hc : ∀ j, j < n → o.getD j false = true → ∀ y ∈ S j, o.getD y false = true) : ∀ i, i ≤ n → ∀ z, (sw S o i).getD z false = true → o.getD z false = true := by
  intro i
  induction i with
  | zero => intro _ z h; exact h
  | succ i ih =>
    intro hi z hz; unfold sw at hz
    split at hz
    · rename_i hsi
      rcases (mk_at (n := n) _ _ (by rw [Lv]; exact ho) (hS i (by omega)) z).1 hz with h1 | h1
      · exact ih (by omega) z h1
      · exact hc i (by omega) (ih (by omega) i hsi) z h1
    · exact ih (by omega) z hz
theorem Xg {r : Nat} (hr : r < n) (z : Nat) : (R4 S n ((List.replicate n false).set r true) n).getD z false = true ↔ Rch S r z := by
  let o0 := (List.replicate n false).set r true
  have ho0 : o0.length = n := by simp [o0]
  have hat0 : ∀ z, o0.getD z false = true ↔ z = r := fun z => by
    show ((List.replicate n false).set r true).getD z false = true ↔ z = r
    rw [List.getD_eq_getElem?_getD, List.getElem?_set]
    by_cases h : r = z
    · subst h; simp [hr]
    · rw [if_neg h, ← List.getD_eq_getElem?_getD, Gh]; simp [Ne.symm h]
  have hlen : ∀ j, (R4 S n o0 j).length = n := fun j => by rw [Qp, ho0]
  have hsound : ∀ j z, (R4 S n o0 j).getD z false = true → Rch S r z := by
    intro j
    induction j with
    | zero => intro z hz; rw [(hat0 z).1 hz]; exact .refl _
    | succ j ih => intro z hz; exact sw_sound hS (hlen j) ih n (Nat.le_refl _) z hz
  have hmono : ∀ j, ∀ z, o0.getD z false = true → (R4 S n o0 j).getD z false = true := by
    intro j
    induction j with
    | zero => intro z h; exact h
    | succ j ih => intro z h; exact Qt hS (hlen j) n (Nat.le_refl _) z (ih z h)
  let C : Nat → Prop := fun j => ∀ i, i < n → (R4 S n o0 j).getD i false = true → ∀ y ∈ S i, (R4 S n o0 j).getD y false = true
  have key : ∀ j, C j ∨ Tn n (fun z => (R4 S n o0 j).getD z false) + j + 1 ≤ n := by
    intro j
    induction j with
    | zero =>
      refine .inr ?_; have h1 := Kq (n := n) (s := fun _ => false) hr rfl
      have e : upd (fun _ => false) r = fun z => (R4 S n o0 0).getD z false := by
        funext z
        rw [Bool.eq_iff_iff, upd_true]
        show _ ↔ o0.getD z false = true
        rw [hat0]
        simp
      rw [e] at h1
      have hcl : Tn n (fun _ => false) = n := by
        unfold Tn; rw [List.filter_eq_self.2 (by simp)]
        simp
      omega
    | succ j ih =>
      by_cases hc : C j
      · refine .inl fun i hi h y hy => ?_; have h1 := sw_closed hS (hlen j) hc n (Nat.le_refl _) i h; exact Qt hS (hlen j) n (Nat.le_refl _) y (hc i hi h1 y hy)
      · rcases ih with ih | ih
        · exact (hc ih).elim
        · refine .inr ?_
          have hex : ∃ i, i < n ∧ (R4 S n o0 j).getD i false = true ∧ ∃ y, y ∈ S i ∧ (R4 S n o0 j).getD y false = false := by
            simp only [C] at hc; simp only [Classical.not_forall] at hc; obtain ⟨i, hi, h1, y, hy, h2⟩ := hc; exact ⟨i, hi, h1, y, hy, by simpa using h2⟩
          obtain ⟨i, hi, h1, y, hy, h2⟩ := hex; have h3 := sw_step hS (hlen j) n (Nat.le_refl _) i hi h1 y hy; have hyn := hS i hi y hy; have h4 := Kq (n := n) (s := fun z => (R4 S n o0 j).getD z false) hyn h2
          have h5 : Tn n (fun z => (R4 S n o0 (j + 1)).getD z false) ≤ Tn n (upd (fun z => (R4 S n o0 j).getD z false) y) := Wp fun z hz => by
            rcases upd_true.1 hz with rfl | hz
            · exact h3
            · exact Qt hS (hlen j) n (Nat.le_refl _) z hz
          omega
  have hC : C n := by
    rcases key n with h | h
    · exact h
    · omega
  constructor
  · exact hsound n z
  · intro hrch
    have hlt : ∀ x z, Rch S x z → x < n → z < n ∧ ((R4 S n o0 n).getD x false = true → (R4 S n o0 n).getD z false = true) := by
      intro x z hxz
      induction hxz with
      | refl x => exact fun hx => ⟨hx, id⟩
      | @head x y z hy _ ih =>
        intro hx; have := ih (hS x hx y hy); exact ⟨this.1, fun h => this.2 (hC x hx h y hy)⟩
    exact (hlt r z hrch hr).2 (hmono n r ((hat0 r).2 rfl))
end
end
end Go.Proofs.Ytjpacggpipflcaa

namespace Go.Proofs.Ytjpacggpipflcaa
noncomputable section
open Go Go.RowKit
set_option linter.unusedVariables false
set_option linter.unusedSimpArgs false
def pos : List Nat → Nat → Nat
  | [], _ => 0
  | x :: l, z => if x = z then 0 else pos l z + 1
theorem Sd (x : Nat) (l : List Nat) (z : Nat) : pos (x :: l) z = if x = z then 0 else pos l z + 1 := rfl
theorem pos_app {A l : List Nat} {z : Nat} (h : z ∉ A) : pos (A ++ l) z = A.length + pos l z := by
  induction A with
  | nil => simp
  | cons x A ih =>
    have h1 : x ≠ z := fun e => h (by rw [e]; exact List.mem_cons_self ..); have h2 : z ∉ A := fun e => h (List.mem_cons_of_mem _ e); rw [List.cons_append, Sd, if_neg h1, ih h2, List.length_cons]; omega
theorem I8 {P : List Nat} (hd : P.Nodup) {i : Nat} (hi : i < P.length) : P[i] ∉ P.take i ∧ pos P P[i] = i := by
  have e : P = P.take i ++ P[i] :: P.drop (i + 1) := by rw [← List.drop_eq_getElem_cons hi, List.take_append_drop]
  have hn : P[i] ∉ P.take i := by
    rw [e] at hd; have := (List.nodup_append.1 hd).2.2; exact fun hm => this _ hm _ (List.mem_cons_self ..) rfl
  refine ⟨hn, ?_⟩
  have h2 : pos (P.take i ++ P[i] :: P.drop (i + 1)) P[i] = i := by
    rw [pos_app hn]
    have : pos (P[i] :: P.drop (i + 1)) P[i] = 0 := by rw [Sd, if_pos rfl]
    rw [this, List.length_take]; omega
  rw [← e] at h2; exact h2
end
end Go.Proofs.Ytjpacggpipflcaa

namespace Go.Proofs.Ytjpacggpipflcaa
noncomputable section
open Go Go.RowKit
set_option linter.unusedVariables false
set_option linter.unusedSimpArgs false
inductive Rc (S : Nat → List Nat) (r : Nat) : Nat → Prop
  | root : Rc S r r
  | step {x y : Nat} (h : Rc S r x) (hy : y ∈ S x) : Rc S r y
inductive Av (S : Nat → List Nat) (r z : Nat) : Nat → Prop
  | root (h : r ≠ z) : Av S r z r
  | step {x y : Nat} (h : Av S r z x) (hy : y ∈ S x) (hz : y ≠ z) : Av S r z y
inductive AvN (S : Nat → List Nat) (r z : Nat) : Nat → Nat → Prop
  | root (h : r ≠ z) (k : Nat) : AvN S r z k r
  | step {k x y : Nat} (h : AvN S r z k x) (hy : y ∈ S x) (hz : y ≠ z) : AvN S r z (k + 1) y
section
variable {S : Nat → List Nat} {r : Nat}
theorem rc_iff {x : Nat} : Rc S r x ↔ Rch S r x := by
  constructor
  · intro h
    induction h with
    | root => exact .refl _
    | step _ hy ih => exact ih.tail hy
  · intro h
    have key : ∀ a b, Rch S a b → Rc S r a → Rc S r b := by
      intro a b hab
      induction hab with
      | refl x => exact id
      | head hy _ ih => exact fun ha => ih (.step ha hy)
    exact key _ _ h .root
def wo (S : Nat → List Nat) (z : Nat) : Nat → List Nat := fun x => (S x).filter fun y => decide (y ≠ z)
theorem av_iff {z x : Nat} : Av S r z x ↔ r ≠ z ∧ Rch (wo S z) r x := by
  constructor
  · intro h
    induction h with
    | root h => exact ⟨h, .refl _⟩
    | step _ hy hz ih => exact ⟨ih.1, ih.2.tail (List.mem_filter.2 ⟨hy, by simpa using hz⟩)⟩
  · rintro ⟨hr, h⟩
    have key : ∀ a b, Rch (wo S z) a b → Av S r z a → Av S r z b := by
      intro a b hab
      induction hab with
      | refl x => exact id
      | head hy _ ih =>
        obtain ⟨h1, h2⟩ := List.mem_filter.1 hy; exact fun ha => ih (.step ha h1 (by simpa using h2))
    exact key _ _ h (.root hr)
theorem Av.rc {z x : Nat} (h : Av S r z x) : Rc S r x := by
  induction h with
  | root _ => exact .root
  | step _ hy _ ih => exact .step ih hy
theorem Av.ne {z x : Nat} (h : Av S r z x) : x ≠ z := by
  cases h with
  | root h => exact h
  | step _ _ hz => exact hz
theorem AvN.av {z k x : Nat} (h : AvN S r z k x) : Av S r z x := by
  induction h with
  | root h => exact .root h
  | step _ hy hz ih => exact .step ih hy hz
theorem AvN.up {z k x : Nat} (h : AvN S r z k x) : AvN S r z (k + 1) x := by
  induction h with
  | root h k => exact .root h _
  | step _ hy hz ih => exact .step ih hy hz
theorem AvN.mono {z k m x : Nat} (h : AvN S r z k x) (hm : k ≤ m) : AvN S r z m x := by
  obtain ⟨d, rfl⟩ := Nat.exists_eq_add_of_le hm; clear hm
  induction d with
  | zero => exact h
  | succ d ih => exact ih.up
theorem Av.avn {z x : Nat} (h : Av S r z x) : ∃ k, AvN S r z k x := by
  induction h with
  | root h => exact ⟨0, .root h 0⟩
  | step _ hy hz ih => obtain ⟨k, hk⟩ := ih; exact ⟨k + 1, .step hk hy hz⟩
theorem AvN.via {z k x : Nat} (h : AvN S r z k x) (y : Nat) : AvN S r y k x ∨ AvN S r z k y := by
  induction h with
  | root h k => by_cases hy : r = y
                · subst hy; exact .inr (.root h _)
                · exact .inl (.root hy _)
  | @step k x w h hy hz ih =>
    rcases ih with h1 | h1
    · by_cases hw : w = y
      · subst hw; exact .inr (.step h hy hz)
      · exact .inl (.step h1 hy hw)
    · exact .inr h1.up
theorem avn_bound (n : Nat) : ∃ K, ∀ z, z < n → ∀ x, x < n → Av S r z x → AvN S r z K x := by
  have one : ∀ z m, ∃ K, ∀ x, x < m → Av S r z x → AvN S r z K x := by
    intro z m
    induction m with
    | zero => exact ⟨0, fun x hx => absurd hx (Nat.not_lt_zero x)⟩
    | succ m ih =>
      obtain ⟨K, hK⟩ := ih
      by_cases h : Av S r z m
      · obtain ⟨k, hk⟩ := h.avn; refine ⟨max K k, fun x hx ha => ?_⟩; rcases Nat.lt_succ_iff_lt_or_eq.1 hx with h1 | rfl
        · exact (hK x h1 ha).mono (Nat.le_max_left ..)
        · exact hk.mono (Nat.le_max_right ..)
      · refine ⟨K, fun x hx ha => ?_⟩; rcases Nat.lt_succ_iff_lt_or_eq.1 hx with h1 | rfl
        · exact hK x h1 ha
        · exact absurd ha h
  have two : ∀ m, ∃ K, ∀ z, z < m → ∀ x, x < n → Av S r z x → AvN S r z K x := by
    intro m
    induction m with
    | zero => exact ⟨0, fun x hx => absurd hx (Nat.not_lt_zero x)⟩
    | succ m ih =>
      obtain ⟨K, hK⟩ := ih; obtain ⟨k, hk⟩ := one m n; refine ⟨max K k, fun z hz x hx ha => ?_⟩; rcases Nat.lt_succ_iff_lt_or_eq.1 hz with h1 | rfl
      · exact (hK z h1 x hx ha).mono (Nat.le_max_left ..)
      · exact (hk x hx ha).mono (Nat.le_max_right ..)
  exact two n
end
inductive UpTo (par : Nat → Int) : Nat → Nat → Prop
  | refl (x : Nat) : UpTo par x x
  | up {x y z : Nat} (h : par x = (y : Int)) (t : UpTo par y z) : UpTo par x z
inductive Fw (S : Nat → List Nat) (at_ : Nat → Nat) (u : Nat) : Nat → Prop
  | refl : Fw S at_ u u
  | step {v w : Nat} (h : Fw S at_ u v) (hw : w ∈ S v) (hl : at_ v < at_ w) : Fw S at_ u w
section
variable {S : Nat → List Nat} {at_ : Nat → Nat} {par : Nat → Int}
theorem Fw.le {u w : Nat} (h : Fw S at_ u w) : at_ u ≤ at_ w := by
  induction h with
  | refl => exact Nat.le_refl _
  | step _ _ hl ih => omega
theorem Fw.trans {u v w : Nat} (h : Fw S at_ u v) (k : Fw S at_ v w) : Fw S at_ u w := by
  induction k with
  | refl => exact h
  | step _ hw hl ih => exact .step ih hw hl
theorem Fw.av {r d u w : Nat} (h : Fw S at_ u w) (ha : Av S r d u) (hd : at_ d < at_ u) : Av S r d w := by
  induction h with
  | refl => exact ha
  | @step v w h hw hl ih => exact .step ih hw (by rintro rfl; have := h.le; omega)
theorem UpTo.trans {x y z : Nat} (h : UpTo par x y) (k : UpTo par y z) : UpTo par x z := by
  induction h with
  | refl x => exact k
  | up h _ ih => exact .up h (ih k)
theorem anc_up {x p z : Nat} (h : par x = (p : Int)) : UpTo par x z ↔ z = x ∨ UpTo par p z := by
  constructor
  · intro k
    cases k with
    | refl => exact .inl rfl
    | up h' t => rw [h] at h'; cases Int.ofNat.inj h'; exact .inr t
  · rintro (rfl | k)
    · exact .refl _
    · exact .up h k
theorem Qr {x z : Nat} (h : ∀ p : Nat, par x ≠ (p : Int)) : UpTo par x z ↔ z = x := by
  constructor
  · intro k
    cases k with
    | refl => rfl
    | up h' t => exact absurd h' (h _)
  · rintro rfl; exact .refl _
structure Inv (S : Nat → List Nat) (r n : Nat) (at_ : Nat → Nat) (par : Nat → Int) : Prop where
  top : par r = -1
  kind : ∀ x, x < n → par x = -2 ∨ x = r ∨ ∃ z : Nat, par x = (z : Int)
  up : ∀ x, x < n → ∀ z : Nat, par x = (z : Int) → z < n ∧ par z ≠ -2 ∧ at_ z < at_ x ∧ Fw S at_ z x
  rc : ∀ x, x < n → par x ≠ -2 → Rc S r x
  all : ∀ x, x < n → par x ≠ -2 → ∀ d, ¬ UpTo par x d → Av S r d x
end
section
variable {S : Nat → List Nat} {at_ : Nat → Nat} {par : Nat → Int} {r n : Nat}
theorem Inv.anc (h : Inv S r n at_ par) {x z : Nat} (k : UpTo par x z) (hx : x < n) (hp : par x ≠ -2) : z < n ∧ par z ≠ -2 ∧ at_ z ≤ at_ x ∧ Fw S at_ z x := by
  induction k with
  | refl x => exact ⟨hx, hp, Nat.le_refl _, .refl⟩
  | @up x y z hxy t ih =>
    obtain ⟨h1, h2, h3, h4⟩ := h.up x hx y hxy; obtain ⟨i1, i2, i3, i4⟩ := ih h1 h2; exact ⟨i1, i2, by omega, i4.trans h4⟩
theorem Inv.root_anc (h : Inv S r n at_ par) {z : Nat} : UpTo par r z ↔ z = r := Qr fun p hp => by rw [h.top] at hp; omega
theorem Inv.strict (h : Inv S r n at_ par) {x z : Nat} (k : UpTo par x z) (hx : x < n) (hp : par x ≠ -2) : z = x ∨ at_ z < at_ x := by
  cases k with
  | refl => exact .inl rfl
  | up hxy t =>
    obtain ⟨h1, h2, h3, h4⟩ := h.up x hx _ hxy; obtain ⟨i1, i2, i3, i4⟩ := h.anc t h1 h2; exact .inr (by omega)
theorem Inv.antisymm (h : Inv S r n at_ par) {x z : Nat} (k : UpTo par x z) (m : UpTo par z x) (hx : x < n) (hp : par x ≠ -2) : z = x := by
  rcases h.strict k hx hp with rfl | h1
  · rfl
  · obtain ⟨i1, i2, i3, i4⟩ := h.anc k hx hp; have := (h.anc m i1 i2).2.2.1; omega
def MeetAt (par : Nat → Int) (a b m : Nat) : Prop := ∀ w, UpTo par m w ↔ UpTo par a w ∧ UpTo par b w
theorem Uy {a : Nat} : MeetAt par a a a := fun w => by simp
theorem meet_swap {a b m : Nat} (h : MeetAt par a b m) : MeetAt par b a m := fun w => by rw [h w]; exact And.comm
theorem Inv.meet_left (h : Inv S r n at_ par) (hinj : ∀ x y, x < n → y < n → par x ≠ -2 → par y ≠ -2 → at_ x = at_ y → x = y) {a b p m : Nat} (ha : a < n) (hpa : par a ≠ -2) (hb : b < n) (hpb : par b ≠ -2) (hab : a ≠ b) (hl : at_ b ≤ at_ a) (hp : par a = (p : Int)) (k : MeetAt par p b m) : MeetAt par a b m := fun w => by
  rw [k w]
  constructor
  · rintro ⟨h1, h2⟩; exact ⟨.up hp h1, h2⟩
  · rintro ⟨h1, h2⟩; rcases (anc_up hp).1 h1 with rfl | h1
    · exfalso
      rcases h.strict h2 hb hpb with h3 | h3
      · exact hab h3
      · omega
    · exact ⟨h1, h2⟩
end
section
variable {S : Nat → List Nat} {at_ : Nat → Nat} {par : Nat → Int} {r n : Nat}
def Gv (par : Nat → Int) (y : Nat) (v : Int) : Nat → Int := fun x => if x = y then v else par x
def Zl (S : Nat → List Nat) (n : Nat) (par : Nat → Int) (y z : Nat) : Prop := ∀ w, UpTo par z w ↔ ∀ p, p < n → y ∈ S p → par p ≠ -2 → UpTo par p w
theorem Pz {y : Nat} {v : Int} {x z : Nat} (k : UpTo par x z) (hy : ¬ UpTo par x y) : UpTo (Gv par y v) x z := by
  induction k with
  | refl x => exact .refl _
  | @up x q z h t ih =>
    have hxy : x ≠ y := by rintro rfl; exact hy (.refl _)
    refine .up (y := q) ?_ (ih fun k => hy (.up h k)); unfold Gv; rw [if_neg hxy]; exact h
theorem Xw {y : Nat} {v : Int} {x : Nat} (k : UpTo par x y) : UpTo (Gv par y v) x y := by
  induction k with
  | refl x => exact .refl _
  | @up x q z h t ih =>
    by_cases hxy : x = z
    · subst hxy; exact .refl _
    · refine .up (y := q) ?_ ih; unfold Gv; rw [if_neg hxy]; exact h
theorem anc_upd_inv {y : Nat} {v : Int} {x w : Nat} (k : UpTo (Gv par y v) x w) : UpTo par x w ∨ (UpTo par x y ∧ UpTo (Gv par y v) y w) := by
  induction k with
  | refl x => exact .inl (.refl _)
  | @up x q w h t ih =>
    by_cases hxy : x = y
    · subst hxy; exact .inr ⟨.refl _, .up h t⟩
    · unfold Gv at h; rw [if_neg hxy] at h; rcases ih with h1 | ⟨h1, h2⟩
      · exact .inl (.up h h1)
      · exact .inr ⟨.up h h1, h2⟩
theorem low_or {y : Nat} {v : Int} {x d : Nat} (k : UpTo par x y) (hd : UpTo par x d) : UpTo par y d ∨ UpTo (Gv par y v) x d := by
  induction k with
  | refl x => exact .inl hd
  | @up x q y hq t ih =>
    by_cases e : x = y
    · subst e; exact .inl hd
    · rcases (anc_up hq).1 hd with rfl | k
      · exact .inr (.refl _)
      · rcases ih k with h1 | h1
        · exact .inl h1
        · exact .inr (.up (y := q) (by unfold Gv; rw [if_neg e]; exact hq) h1)
structure Better (S : Nat → List Nat) (r n : Nat) (at_ : Nat → Nat) (par : Nat → Int) (y z : Nat) : Prop where
  inv : Inv S r n at_ par
  hy : y < n
  hr : y ≠ r
  hz : z < n
  best : Zl S n par y z
  fwd : ∃ p, p < n ∧ y ∈ S p ∧ par p ≠ -2 ∧ at_ p < at_ y
variable {y z : Nat}
theorem Better.zlt (h : Better S r n at_ par y z) : UpTo par z z ∧ par z ≠ -2 ∧ at_ z < at_ y ∧ Fw S at_ z y := by
  obtain ⟨p, hp, hyp, hpp, hl⟩ := h.fwd; obtain ⟨h1, h2, h3, h4⟩ := h.inv.anc ((h.best z).1 (.refl _) p hp hyp hpp) hp hpp; exact ⟨.refl _, h2, by omega, .step h4 hyp hl⟩
theorem Better.above (h : Better S r n at_ par y z) {w : Nat} : UpTo (Gv par y z) z w ↔ UpTo par z w := by
  obtain ⟨_, h2, h3, _⟩ := h.zlt
  have hn : ¬ UpTo par z y := fun k => by have := (h.inv.anc k h.hz h2).2.2.1; omega
  constructor
  · intro k; rcases anc_upd_inv k with h1 | ⟨h1, _⟩
    · exact h1
    · exact absurd h1 hn
  · intro k; exact Pz k hn
theorem Better.here (h : Better S r n at_ par y z) {w : Nat} : UpTo (Gv par y z) y w ↔ w = y ∨ UpTo par z w := by
  rw [anc_up (p := z) (by simp [Gv]), h.above]
theorem Better.av_here (h : Better S r n at_ par y z) {d : Nat} (hd : ¬ UpTo (Gv par y z) y d) : Av S r d y := by
  rw [h.here] at hd; have h1 : ¬ ∀ p, p < n → y ∈ S p → par p ≠ -2 → UpTo par p d := fun hh => hd (.inr ((h.best d).2 hh)); simp only [Classical.not_forall] at h1; obtain ⟨p, hp, hyp, hpp, hnp⟩ := h1; exact .step (h.inv.all p hp hpp d hnp) hyp fun e => hd (.inl e.symm)
theorem Better.inv' (h : Better S r n at_ par y z) : Inv S r n at_ (Gv par y z) := by
  obtain ⟨hzz, hz2, hzl, hzf⟩ := h.zlt; obtain ⟨p, hp, hyp, hpp, hl⟩ := h.fwd
  have hne : ∀ x, Gv par y z x ≠ -2 → x = y ∨ par x ≠ -2 := fun x hx => by
    by_cases e : x = y
    · exact .inl e
    · unfold Gv at hx; rw [if_neg e] at hx; exact .inr hx
  have hyv : Gv par y z y = (z : Int) := by simp [Gv]
  have hyo : ∀ x, x ≠ y → Gv par y z x = par x := fun x e => by unfold Gv; rw [if_neg e]
  refine ⟨by rw [hyo _ (Ne.symm h.hr)]; exact h.inv.top, fun x hx => ?_, fun x hx w hw => ?_, fun x hx hxp => ?_, fun x hx hxp d hd => ?_⟩
  · by_cases e : x = y
    · subst e; exact .inr (.inr ⟨z, hyv⟩)
    · rw [hyo x e]; exact h.inv.kind x hx
  · have hzn : ∀ w, par w ≠ -2 → Gv par y z w ≠ -2 := fun w hw => by
      by_cases e : w = y
      · subst e; rw [hyv]; omega
      · rw [hyo w e]; exact hw
    by_cases e : x = y
    · subst e; rw [hyv] at hw
      cases Int.ofNat.inj hw
      exact ⟨h.hz, hzn _ hz2, hzl, hzf⟩
    · rw [hyo x e] at hw; obtain ⟨h1, h2, h3, h4⟩ := h.inv.up x hx w hw; exact ⟨h1, hzn _ h2, h3, h4⟩
  · rcases hne x hxp with rfl | h1
    · exact .step (h.inv.rc p hp hpp) hyp
    · exact h.inv.rc x hx h1
  · by_cases e : x = y
    · subst e; exact h.av_here hd
    · rw [hyo x e] at hxp
      by_cases hxd : UpTo par x d
      ·
        by_cases hxy : UpTo par x y
        · have hyd : ¬ UpTo (Gv par y z) y d := fun k => hd ((Xw hxy).trans k); have hav := h.av_here hyd; have hf := (h.inv.anc hxy hx hxp).2.2.2
          have hdy : UpTo par y d := by
            rcases low_or (v := (z : Int)) hxy hxd with h1 | h1
            · exact h1
            · exact absurd h1 hd
          by_cases hpy : par y = -2
          ·
            have : d = y := by
              refine (Qr (par := par) fun p hp => ?_).1 hdy; rw [hpy] at hp; omega
            subst this; exact absurd (.refl _) hyd
          · rcases h.inv.strict hdy h.hy hpy with rfl | hlt
            · exact absurd (.refl _) hyd
            · exact hf.av hav hlt
        · exact absurd (Pz hxd hxy) hd
      · exact h.inv.all x hx hxp d hxd
end
end
end Go.Proofs.Ytjpacggpipflcaa

namespace Go.Proofs.Ytjpacggpipflcaa
noncomputable section
open Go Go.RowKit
set_option linter.unusedVariables false
set_option linter.unusedSimpArgs false
section
variable {S : Nat → List Nat} {at_ : Nat → Nat} {par : Nat → Int} {r n : Nat}
def QB (S : Nat → List Nat) (r n : Nat) (par : Nat → Int) (b : Nat → Nat) : Prop := ∀ x, x < n → par x ≠ -2 → ∀ z, AvN S r z (b x) x → ¬ UpTo par x z
def Zu (S : Nat → List Nat) (r n : Nat) (par : Nat → Int) : Prop := ∀ x, x < n → Rc S r x → par x ≠ -2
def Exact (S : Nat → List Nat) (r n : Nat) (par : Nat → Int) : Prop := ∀ x, x < n → par x ≠ -2 → ∀ d, UpTo par x d ↔ ¬ Av S r d x
theorem qb_zero (h : Inv S r n at_ par) : QB S r n par fun _ => 0 := fun x hx hp z hz k => by
  cases hz with
  | root hr _ => exact hr (h.root_anc.1 k).symm
theorem Ww (hS : ∀ x, x < n → ∀ w ∈ S x, w < n) (hr : r < n) {x : Nat} (h : Rc S r x) : x < n := by
  induction h with
  | root => exact hr
  | step _ hy ih => exact hS _ ih _ hy
theorem Better.qb {y z k : Nat} {b : Nat → Nat} (h : Better S r n at_ par y z) (hS : ∀ x, x < n → ∀ w ∈ S x, w < n) (hrn : r < n) (full : Zu S r n par) (hb : ∀ x, x < n → k ≤ b x ∧ b x ≤ k + 1) (q : QB S r n par b) :
    QB S r n (Gv par y z) fun x => if x = y then k + 1 else b x := by
  have here : ∀ w, AvN S r w (k + 1) y → ¬ UpTo (Gv par y z) y w := fun w hw hu => by
    rcases h.here.1 hu with rfl | hu
    · exact hw.av.ne rfl
    · cases hw with
      | root hr _ => exact h.hr rfl
      | @step _ p _ hp hyp hne =>
        have hpn := Ww hS hrn hp.av.rc; have hpp := full p hpn hp.av.rc; exact q p hpn hpp w (hp.mono (hb p hpn).1) ((h.best w).1 hu p hpn hyp hpp)
  intro x hx hxp w hw hu
  dsimp only at hw
  by_cases e : x = y
  · subst e; rw [if_pos rfl] at hw; exact here w hw hu
  · rw [if_neg e] at hw; unfold Gv at hxp; rw [if_neg e] at hxp; rcases anc_upd_inv hu with h1 | ⟨h1, h2⟩
    · exact q x hx hxp w hw h1
    · rcases hw.via y with h3 | h3
      · exact q x hx hxp y h3 h1
      · exact here w (h3.mono (hb x hx).2) h2
theorem exact_of (h : Inv S r n at_ par) {K : Nat} (hK : ∀ z, z < n → ∀ x, x < n → Av S r z x → AvN S r z K x) (q : QB S r n par fun _ => K) : Exact S r n par := fun x hx hp d => by
  constructor
  · intro hu ha; exact q x hx hp d (hK d (h.anc hu hx hp).1 x hx ha) hu
  · intro ha; exact Classical.byContradiction fun hn => ha (h.all x hx hp d hn)
theorem Better.same {y z : Nat} (h : Better S r n at_ par y z) (hS : ∀ x, x < n → ∀ w ∈ S x, w < n) (hrn : r < n) (full : Zu S r n par) (hy2 : par y ≠ -2) (ex : Exact S r n par) : par y = (z : Int) := by
  obtain ⟨hzz, hz2, hzl, hzf⟩ := h.zlt; rcases h.inv.kind y h.hy with h1 | h1 | ⟨q, hq⟩
  · exact absurd h1 hy2
  · exact absurd h1 h.hr
  · obtain ⟨q1, q2, q3, q4⟩ := h.inv.up y h.hy q hq
    have key : ∀ w, UpTo par z w ↔ UpTo par q w := fun w => by
      rw [h.best w]
      constructor
      · intro hall
        have hwy : ¬ Av S r w y := fun ha => by
          cases ha with
          | root _ => exact h.hr rfl
          | @step p _ hp hyp hne =>
            have hpn := Ww hS hrn hp.rc; have hpp := full p hpn hp.rc; exact (ex p hpn hpp w).1 (hall p hpn hyp hpp) hp
        rcases (anc_up hq).1 ((ex y h.hy hy2 w).2 hwy) with rfl | hu
        · have := (h.inv.anc ((h.best _).2 hall) h.hz hz2).2.2.1; omega
        · exact hu
      · intro hu p hp hyp hpp; have hwy : UpTo par y w := .up hq hu; refine (ex p hp hpp w).2 fun ha => ?_
        have hne : y ≠ w := by rintro rfl; have := (h.inv.anc hu q1 q2).2.2.1; omega
        exact (ex y h.hy hy2 w).1 hwy (.step ha hyp hne)
    have := h.inv.antisymm ((key q).2 (.refl _)) ((key z).1 (.refl _)) h.hz hz2; rw [hq, this]
theorem exact_fix (h : Inv S r n at_ par) (hS : ∀ x, x < n → ∀ w ∈ S x, w < n) (hrn : r < n) (full : Zu S r n par) (fix : ∀ y, y < n → y ≠ r → Rc S r y → ∃ z : Nat, par y = (z : Int) ∧ Zl S n par y z) : Exact S r n par := fun x hx hp d => by
  constructor
  · intro hu ha
    induction ha with
    | root hne => exact hne (h.root_anc.1 hu).symm
    | @step p y hp' hyp hne ih =>
      have hpn := Ww hS hrn hp'.rc; have hpp := full p hpn hp'.rc
      by_cases e : y = r
      · subst e; exact hne (h.root_anc.1 hu).symm
      · obtain ⟨z, hz, hb⟩ := fix y hx e (.step hp'.rc hyp); rcases (anc_up hz).1 hu with rfl | hu
        · exact hne rfl
        · exact ih hpn hpp ((hb d).1 hu p hpn hyp hpp)
  · intro ha; exact Classical.byContradiction fun hn => ha (h.all x hx hp d hn)
end
def Bf (t : List Int) : Nat → Int := fun x => t.getD x 0
theorem Wt {t : List Int} {y : Nat} {v : Int} (hy : y < t.length) : Bf (t.set y v) = Gv (Bf t) y v := by
  funext x
  unfold Bf Gv
  by_cases e : x = y
  · subst e; simp [List.getD, hy]
  · simp [List.getD, e, Ne.symm e]
open Classical in
def Gm (S : Nat → List Nat) (n : Nat) (t : List Int) (y : Nat) : Nat := if h : ∃ z, z < n ∧ Zl S n (Bf t) y z then Classical.choose h else 0
def Lg (S : Nat → List Nat) (n : Nat) (P : List Nat) (t : List Int) : Nat → List Int
  | 0 => t
  | i + 1 => (Lg S n P t i).set (P.getD i 0) (Gm S n (Lg S n P t i) (P.getD i 0) : Int)
def Ra (S : Nat → List Nat) (n : Nat) (P : List Nat) (t : List Int) : Nat → List Int
  | 0 => t
  | j + 1 => Lg S n P (Ra S n P t j) P.length
def D6 (n r : Nat) : List Int := (List.replicate n (-2 : Int)).set r (-1)
structure Ordered (S : Nat → List Nat) (r n : Nat) (P : List Nat) : Prop where
  hr : r < n
  hS : ∀ x, x < n → ∀ w ∈ S x, w < n
  nodup : (r :: P).Nodup
  mem : ∀ x, x ∈ r :: P ↔ Rc S r x
  fwd : ∀ i, i < P.length → ∃ p, p ∈ r :: P.take i ∧ P.getD i 0 ∈ S p
section
variable {S : Nat → List Nat} {r n : Nat} {P : List Nat}
theorem Ordered.lt (o : Ordered S r n P) {x : Nat} (h : x ∈ r :: P) : x < n := Ww o.hS o.hr ((o.mem x).1 h)
theorem Ih {i : Nat} (hi : i < P.length) : P.getD i 0 ∈ P := by rw [Ag _ _ _ hi]; exact List.getElem_mem hi
theorem Ordered.at_lt (o : Ordered S r n P) {i : Nat} (hi : i < P.length) {p : Nat} (hp : p ∈ r :: P.take i) : pos (r :: P) p < pos (r :: P) (P.getD i 0) := by
  have hd := o.nodup
  have h1 : pos (r :: P) (P.getD i 0) = i + 1 := by
    have := (I8 hd (i := i + 1) (by simpa using hi)).2; rw [Ag _ _ _ hi]
    simpa using this
  rw [h1]; obtain ⟨j, hj, rfl⟩ := List.getElem_of_mem hp
  have hj' : j < i + 1 := by simp at hj; omega
  have hjl : j < (r :: P).length := by simp; omega
  have e : (r :: P.take i)[j] = (r :: P)[j] := by
    cases j with
    | zero => rfl
    | succ j => simp
  rw [e, (I8 hd hjl).2]; exact hj'
theorem inv0 (o : Ordered S r n P) : Inv S r n (pos (r :: P)) (Bf (D6 n r)) ∧ (D6 n r).length = n ∧ Bf (D6 n r) r ≠ -2 := by
  have hlen : (D6 n r).length = n := by simp [D6]
  have hr := o.hr
  have at_ : ∀ x, x < n → Bf (D6 n r) x = if x = r then -1 else -2 := fun x hx => by
    unfold Bf D6
    by_cases e : x = r
    · subst e; simp [List.getD, hx]
    · simp [List.getD, hx, e, Ne.symm e]
  have hno : ∀ x, x < n → ∀ p : Nat, Bf (D6 n r) x ≠ (p : Int) := fun x hx p hp => by rw [at_ x hx] at hp; split at hp <;> omega
  refine ⟨⟨by rw [at_ r hr, if_pos rfl], fun x hx => ?_, fun x hx z hz => absurd hz (hno x hx z), fun x hx hp => ?_, fun x hx hp d hd => ?_⟩, hlen, by rw [at_ r hr, if_pos rfl]; omega⟩
  · by_cases e : x = r
    · exact .inr (.inl e)
    · exact .inl (by rw [at_ x hx, if_neg e])
  · by_cases e : x = r
    · subst e; exact .root
    · exact absurd (by rw [at_ x hx, if_neg e]) hp
  · by_cases e : x = r
    · subst e; exact .root (fun e => hd (by rw [e]; exact .refl _))
    · exact absurd (by rw [at_ x hx, if_neg e]) hp
structure Ready (S : Nat → List Nat) (r n : Nat) (P : List Nat) (t : List Int) (i : Nat) : Prop where
  inv : Inv S r n (pos (r :: P)) (Bf t)
  len : t.length = n
  done : ∀ x ∈ r :: P.take i, Bf t x ≠ -2
theorem Inv.meets {at_ : Nat → Nat} {par : Nat → Int} (h : Inv S r n at_ par) (hinj : ∀ x y, x < n → y < n → par x ≠ -2 → par y ≠ -2 → at_ x = at_ y → x = y) (hr : at_ r = 0) : ∀ m a b, at_ a + at_ b ≤ m → a < n → b < n → par a ≠ -2 → par b ≠ -2 → ∃ c, MeetAt par a b c ∧ c < n ∧ par c ≠ -2 := by
  intro m
  induction m with
  | zero =>
    intro a b hm ha hb hpa hpb; have : a = b := hinj a b ha hb hpa hpb (by omega); subst this; exact ⟨a, Uy, ha, hpa⟩
  | succ m ih =>
    have go : ∀ a b, at_ a + at_ b ≤ m + 1 → a < n → b < n → par a ≠ -2 → par b ≠ -2 → at_ b ≤ at_ a → ∃ c, MeetAt par a b c ∧ c < n ∧ par c ≠ -2 := fun a b hm ha hb hpa hpb hl => by
      by_cases e : a = b
      · subst e; exact ⟨a, Uy, ha, hpa⟩
      · rcases h.kind a ha with h1 | h1 | ⟨p, hp⟩
        · exact absurd h1 hpa
        · subst h1; exact absurd (hinj a b ha hb hpa hpb (by omega)) e
        · obtain ⟨p1, p2, p3, p4⟩ := h.up a ha p hp; obtain ⟨c, hc, hc2⟩ := ih p b (by omega) p1 hb p2 hpb; exact ⟨c, h.meet_left hinj ha hpa hb hpb e hl hp hc, hc2⟩
    intro a b hm ha hb hpa hpb; rcases Nat.le_total (at_ b) (at_ a) with hl | hl
    · exact go a b hm ha hb hpa hpb hl
    · obtain ⟨c, hc, hc2⟩ := go b a (by omega) hb ha hpb hpa hl; exact ⟨c, meet_swap hc, hc2⟩
theorem Ready.inj (o : Ordered S r n P) {t : List Int} {i : Nat} (h : Ready S r n P t i) : ∀ x y, x < n → y < n → Bf t x ≠ -2 → Bf t y ≠ -2 → pos (r :: P) x = pos (r :: P) y → x = y := fun x y hx hy hpx hpy he => by
  have hm : ∀ x, x < n → Bf t x ≠ -2 → x ∈ r :: P := fun x hx hp => (o.mem x).2 (h.inv.rc x hx hp)
  have back : ∀ x ∈ r :: P, (r :: P).getD (pos (r :: P) x) 0 = x := fun x hx => by
    obtain ⟨j, hj, rfl⟩ := List.getElem_of_mem hx; rw [(I8 o.nodup hj).2, Ag _ _ _ hj]
  rw [← back x (hm x hx hpx), ← back y (hm y hy hpy), he]
theorem Ya : pos (r :: P) r = 0 := by rw [Sd, if_pos rfl]
theorem Ready.meetAll (o : Ordered S r n P) {t : List Int} {i : Nat} (h : Ready S r n P t i) : ∀ l : List Nat, (∀ p ∈ l, p < n ∧ Bf t p ≠ -2) → l ≠ [] → ∃ z, z < n ∧ Bf t z ≠ -2 ∧ ∀ w, UpTo (Bf t) z w ↔ ∀ p ∈ l, UpTo (Bf t) p w := by
  intro l
  induction l with
  | nil => intro _ hn; exact absurd rfl hn
  | cons p l ih =>
    intro hl _; obtain ⟨hp1, hp2⟩ := hl p (List.mem_cons_self ..)
    by_cases hl0 : l = []
    · subst hl0; exact ⟨p, hp1, hp2, fun w => by simp⟩
    · obtain ⟨z, hz1, hz2, hz3⟩ := ih (fun q hq => hl q (List.mem_cons_of_mem _ hq)) hl0; obtain ⟨c, hc1, hc2, hc3⟩ := h.inv.meets (h.inj o) Ya _ p z (Nat.le_refl _) hp1 hz1 hp2 hz2; exact ⟨c, hc2, hc3, fun w => by rw [hc1 w, hz3 w]; simp⟩
theorem Ready.best (o : Ordered S r n P) {t : List Int} {i : Nat} (h : Ready S r n P t i) (hi : i < P.length) : Better S r n (pos (r :: P)) (Bf t) (P.getD i 0) (Gm S n t (P.getD i 0)) := by
  have hy := Ih hi; have hyr : P.getD i 0 ≠ r := fun e => (List.nodup_cons.1 o.nodup).1 (e ▸ hy); have hyn := o.lt (List.mem_cons_of_mem _ hy); obtain ⟨p, hp, hyp⟩ := o.fwd i hi; have hp2 := h.done p hp
  have hpP : p ∈ r :: P := by
    rcases List.mem_cons.1 hp with rfl | hp
    · exact List.mem_cons_self ..
    · exact List.mem_cons_of_mem _ (List.mem_of_mem_take hp)
  have hpn := o.lt hpP
  have hex : ∃ z, z < n ∧ Zl S n (Bf t) (P.getD i 0) z := by
    classical
    obtain ⟨z, hz1, hz2, hz3⟩ := h.meetAll o ((List.range n).filter fun p => decide (P.getD i 0 ∈ S p ∧ Bf t p ≠ -2)) (fun p hp => by
      obtain ⟨h1, h2⟩ := List.mem_filter.1 hp
      exact ⟨List.mem_range.1 h1, (of_decide_eq_true h2).2⟩) (fun e => by
      have : p ∈ (List.range n).filter fun p => decide (P.getD i 0 ∈ S p ∧ Bf t p ≠ -2) := List.mem_filter.2 ⟨List.mem_range.2 hpn, decide_eq_true ⟨hyp, hp2⟩⟩
      rw [e] at this; cases this)
    refine ⟨z, hz1, fun w => ?_⟩; rw [hz3 w]
    constructor
    · intro k p hp hyp hpp; exact k p (List.mem_filter.2 ⟨List.mem_range.2 hp, decide_eq_true ⟨hyp, hpp⟩⟩)
    · intro k p hp; obtain ⟨h1, h2⟩ := List.mem_filter.1 hp; exact k p (List.mem_range.1 h1) (of_decide_eq_true h2).1 (of_decide_eq_true h2).2
  have hb : Gm S n t (P.getD i 0) < n ∧ Zl S n (Bf t) (P.getD i 0) (Gm S n t (P.getD i 0)) := by
    unfold Gm; rw [dif_pos hex]; exact Classical.choose_spec hex
  exact ⟨h.inv, hyn, hyr, hb.1, hb.2, p, hpn, hyp, hp2, o.at_lt hi hp⟩
theorem Ready.best_eq (o : Ordered S r n P) {t : List Int} {i : Nat} (h : Ready S r n P t i) (hi : i < P.length) {z : Nat} (hz : z < n) (hz2 : Bf t z ≠ -2) (hb : Zl S n (Bf t) (P.getD i 0) z) : z = Gm S n t (P.getD i 0) := by
  have b := h.best o hi; exact (h.inv.antisymm ((hb _).2 ((b.best _).1 (.refl _))) ((b.best _).2 ((hb _).1 (.refl _))) hz hz2).symm
theorem Ready.next (o : Ordered S r n P) {t : List Int} {i : Nat} (h : Ready S r n P t i) (hi : i < P.length) : Ready S r n P (t.set (P.getD i 0) (Gm S n t (P.getD i 0) : Int)) (i + 1) := by
  have b := h.best o hi; have e := Wt (t := t) (y := P.getD i 0) (v := (Gm S n t (P.getD i 0) : Int)) (by rw [h.len]; exact b.hy); refine ⟨by rw [e]; exact b.inv', by rw [List.length_set]; exact h.len, fun x hx => ?_⟩; rw [e]; unfold Gv
  split
  · omega
  · rename_i hne
    refine h.done x ?_; rcases List.mem_cons.1 hx with rfl | hx
    · exact List.mem_cons_self ..
    · rw [List.take_succ_eq_append_getElem hi] at hx; rcases List.mem_append.1 hx with hx | hx
      · exact List.mem_cons_of_mem _ hx
      · rw [List.mem_singleton, ← Ag _ _ 0 hi] at hx; exact absurd hx hne
theorem Ready.more (o : Ordered S r n P) {t : List Int} (h : Ready S r n P t P.length) (i : Nat) : Ready S r n P t i :=
  ⟨h.inv, h.len, fun x hx => h.done x (by
    rw [List.take_length]; rcases List.mem_cons.1 hx with rfl | hx
    · exact List.mem_cons_self ..
    · exact List.mem_cons_of_mem _ (List.mem_of_mem_take hx))⟩
theorem Ready.full (o : Ordered S r n P) {t : List Int} (h : Ready S r n P t P.length) : Zu S r n (Bf t) := fun x hx hr => h.done x (by rw [List.take_length]; exact (o.mem x).2 hr)
theorem Ready.round (o : Ordered S r n P) {t : List Int} (h : Ready S r n P t 0) : ∀ i, i ≤ P.length → Ready S r n P (Lg S n P t i) i := by
  intro i
  induction i with
  | zero => intro _; exact h
  | succ i ih => intro hi; exact (ih (by omega)).next o (by omega)
theorem ready0 (o : Ordered S r n P) : Ready S r n P (D6 n r) 0 := by
  obtain ⟨h1, h2, h3⟩ := inv0 o; exact ⟨h1, h2, fun x hx => by simp at hx; subst hx; exact h3⟩
theorem Ready.rounds (o : Ordered S r n P) : ∀ j, Ready S r n P (Ra S n P (D6 n r) j) 0 := by
  intro j
  induction j with
  | zero => exact ready0 o
  | succ j ih => exact ((ih.round o) P.length (Nat.le_refl _)).more o 0
theorem Ready.rounds' (o : Ordered S r n P) (j : Nat) : Ready S r n P (Ra S n P (D6 n r) (j + 1)) P.length := (Ready.rounds o j).round o P.length (Nat.le_refl _)
theorem qb_round (o : Ordered S r n P) {t : List Int} {k : Nat} (h : Ready S r n P t P.length) (q : QB S r n (Bf t) fun _ => k) : QB S r n (Bf (Lg S n P t P.length)) fun _ => k + 1 := by
  have key : ∀ i, i ≤ P.length → QB S r n (Bf (Lg S n P t i)) (fun x => if x ∈ P.take i then k + 1 else k) ∧ Zu S r n (Bf (Lg S n P t i)) := by
    intro i
    induction i with
    | zero => intro _; exact ⟨by simpa [Lg] using q, h.full o⟩
    | succ i ih =>
      intro hi; obtain ⟨q1, f1⟩ := ih (by omega); have rd := (h.more o 0).round o i (by omega); have b := rd.best o (by omega); have e := Wt (t := Lg S n P t i) (y := P.getD i 0) (v := (Gm S n (Lg S n P t i) (P.getD i 0) : Int)) (by rw [rd.len]; exact b.hy)
      constructor
      · show QB S r n (Bf ((Lg S n P t i).set _ _)) _
        rw [e]; have := b.qb (k := k) o.hS o.hr f1 (fun x _ => by split <;> omega) q1; intro x hx hp z hz; refine this x hx hp z ?_
        dsimp only at hz ⊢
        rw [List.take_succ_eq_append_getElem (by omega : i < P.length)] at hz
        by_cases e1 : x = P.getD i 0
        · rw [if_pos e1]; rwa [if_pos (List.mem_append.2 (.inr (List.mem_singleton.2 (by rw [e1, Ag _ _ _ (by omega : i < P.length)]))))] at hz
        · rw [if_neg e1]
          by_cases e2 : x ∈ P.take i
          · rw [if_pos e2]; rwa [if_pos (List.mem_append.2 (.inl e2))] at hz
          · rw [if_neg e2]
            rwa [if_neg (fun hm => by
              rcases List.mem_append.1 hm with hm | hm
              · exact e2 hm
              · rw [List.mem_singleton, ← Ag _ _ 0 (by omega : i < P.length)] at hm; exact e1 hm)] at hz
      · show Zu S r n (Bf ((Lg S n P t i).set _ _))
        rw [e]; intro x hx hr; unfold Gv
        split
        · omega
        · exact f1 x hx hr
  have q1 := (key P.length (Nat.le_refl _)).1; rw [List.take_length] at q1; have rd := (h.more o 0).round o P.length (Nat.le_refl _); intro x hx hp z hz; refine q1 x hx hp z ?_
  dsimp only at hz ⊢
  by_cases e : x ∈ P
  · rw [if_pos e]; exact hz
  · rw [if_neg e]
    have hxr : x = r := by
      rcases List.mem_cons.1 ((o.mem x).2 (rd.inv.rc x hx hp)) with h1 | h1
      · exact h1
      · exact absurd h1 e
    subst hxr; exact .root hz.av.ne k
def K3 (S : Nat → List Nat) (n : Nat) (P : List Nat) (t : List Int) : Prop := ∀ i, i < P.length → Bf t (P.getD i 0) = (Gm S n t (P.getD i 0) : Int)
theorem Lm {t : List Int} (o : Ordered S r n P) (hl : t.length = n) (h : K3 S n P t) : ∀ i, i ≤ P.length → Lg S n P t i = t := by
  intro i
  induction i with
  | zero => intro _; rfl
  | succ i ih =>
    intro hi; unfold Lg; rw [ih (by omega), ← h i (by omega)]
    have hlt : P.getD i 0 < t.length := by rw [hl]; exact o.lt (List.mem_cons_of_mem _ (Ih (by omega)))
    unfold Bf; rw [Ag _ _ _ hlt]; exact List.set_getElem_self hlt
theorem stops (o : Ordered S r n P) : ∃ J, (∀ j, j < J → ¬ K3 S n P (Ra S n P (D6 n r) j)) ∧ K3 S n P (Ra S n P (D6 n r) J) := by
  obtain ⟨K, hK⟩ := avn_bound (S := S) (r := r) n
  have hq : ∀ k, QB S r n (Bf (Ra S n P (D6 n r) (k + 1))) fun _ => k := by
    intro k
    induction k with
    | zero => exact qb_zero (Ready.rounds' o 0).inv
    | succ k ih => exact qb_round o (Ready.rounds' o k) ih
  have hst : K3 S n P (Ra S n P (D6 n r) (K + 1)) := fun i hi => by
    have rd := Ready.rounds' o K; exact ((rd.more o i).best o hi).same o.hS o.hr (rd.full o) (rd.done _ (List.mem_cons_of_mem _ (by rw [List.take_length]; exact Ih hi))) (exact_of rd.inv hK (hq K))
  have key : ∀ m, (∃ J, J ≤ m ∧ K3 S n P (Ra S n P (D6 n r) J)) → ∃ J, (∀ j, j < J → ¬ K3 S n P (Ra S n P (D6 n r) j)) ∧ K3 S n P (Ra S n P (D6 n r) J) := by
    intro m
    induction m with
    | zero => rintro ⟨J, hJ, h⟩; exact ⟨J, fun j hj => by omega, h⟩
    | succ m ih =>
      rintro ⟨J, hJ, h⟩
      by_cases hm : ∃ J, J ≤ m ∧ K3 S n P (Ra S n P (D6 n r) J)
      · exact ih hm
      · exact ⟨J, fun j hj hs => hm ⟨j, by omega, hs⟩, h⟩
  exact key (K + 1) ⟨K + 1, Nat.le_refl _, hst⟩
structure DomTree (S : Nat → List Nat) (r n : Nat) (P : List Nat) (t : List Int) : Prop where
  inv : Inv S r n (pos (r :: P)) (Bf t)
  len : t.length = n
  full : Zu S r n (Bf t)
  exact_ : Exact S r n (Bf t)
theorem P3 (o : Ordered S r n P) {j : Nat} (h : K3 S n P (Ra S n P (D6 n r) j)) : DomTree S r n P (Ra S n P (D6 n r) j) := by
  have rd := Ready.rounds o j
  have hall : Ready S r n P (Ra S n P (D6 n r) j) P.length := by
    have := rd.round o P.length (Nat.le_refl _); rwa [Lm o rd.len h P.length (Nat.le_refl _)] at this
  refine ⟨rd.inv, rd.len, hall.full o, exact_fix rd.inv o.hS o.hr (hall.full o) fun y hy hne hr => ?_⟩
  have hm : y ∈ P := by
    rcases List.mem_cons.1 ((o.mem y).2 hr) with h1 | h1
    · exact absurd h1 hne
    · exact h1
  obtain ⟨i, hi, rfl⟩ := List.getElem_of_mem hm; have b := (hall.more o i).best o hi; rw [Ag _ _ _ hi] at b; have hs := h i hi; rw [Ag _ _ _ hi] at hs; exact ⟨_, hs, b.best⟩
end
end
end Go.Proofs.Ytjpacggpipflcaa
