/-
  The machine, the program's functions and the laws' arithmetic: part 5 of 6.
-/
import Derived.Test.YtjpacggpipflcaaPk4
set_option linter.unusedVariables false
set_option linter.unusedSimpArgs false
namespace Go.Proofs.Ytjpacggpipflcaa
noncomputable section
open Go Go.RowKit
set_option linter.unusedVariables false
set_option maxRecDepth 100000
set_option maxHeartbeats 2000000
def Ds (a_list : List (Int)) : (Int × List (Bool)) → Option (LR (Int × List (Bool)) (List (Bool))) :=
  fun ((i1, l2) : (Int × List (Bool))) => (bif (decide ((i1 : Int) < (a_list.length : Int))) then (Cl (A8 i1 a_list.length) (Cl (A8 (a_list.getD (i1).toNat (0 : Int)) 64) (some (.next ((A0 (i1 + (1 : Int))), (Dp 64 false l2 ((a_list.getD (i1).toNat (0 : Int))).toNat true)))))) else (some (.done l2)))
def Vb (a_list : List (Int)) : AV := (AV.list 1 Ac (0 : Int) a_list .none)
def Sc := (fun i => eB ((List.replicate 64 false).getD i false))
def Q175 (l2 : List (Bool)) : List (Nat × Own) := [(2, .arr 1 53 64 Sc), (3, .arr 1 53 64 (fun i => eB (l2.getD i false)))]
def Q173 (a_list : List (Int)) (i1 : Int) : List (Nat × AV) := [(2, (.vpt 2 64 0 0)), (3, (.vpt 3 64 0 0)), (6, (Vb a_list)), (7, (.int .i64 (a_list.length : Int))), (8, (.int .i64 i1))]
def Fd (a_list : List (Int)) : Option (List (Bool)) :=
  ((Aw (S := (Int × List (Bool))) (X := List (Bool)) (Ds a_list) ((0 : Int), (List.replicate 64 false))).bind (fun x6 => ((some x6))))
theorem Ra (a_list : List (Int)) (r : List (Bool)) (h : Fd a_list = some r) : Spec Try.prog 30 [(AV.list 1 Ac (0 : Int) a_list .none)] [] (.agg (Fn r)) [] := by
  refine An (fn := Try.f30) Try.func30 rfl rfl (by kernel_rfl) (fun Γ hn hΓ => ?_); have hq : RgQ Try.prog Γ 16 [] := ⟨hn, mix, hΓ⟩; unfold Fd at h; refine B6 [] [(2, (.vpt 2 64 0 0))] ⟨[(0, (Vb a_list)), (2, (.vpt 2 64 0 0))], [(2, .arr 1 53 64 (fun i_ => AV.eraseAll (fun n_ => B3 n_ [2]) ((fun i => (((List.replicate 64 [(.bool false)]).flatten).drop (i * 1)).take 1) i_)))], []⟩ [] hq trivial ?_; refine Af (Cd (st' := ⟨[(0, (Vb a_list)), (2, (.vpt 2 64 0 0))], [(2, .arr 1 53 64 Sc)], []⟩) (TmpsLe.refl _) (.arr (H7 (e := eB) (d := false) (z := [(.bool false)]) rfl rfl rfl) .nil)) ?_; refine B6 [] [(3, (.vpt 3 64 0 0))] ⟨[(0, (Vb a_list)), (2, (.vpt 2 64 0 0)), (3, (.vpt 3 64 0 0))], [(2, .arr 1 53 64 Sc), (3, .arr 1 53 64 (fun i_ => AV.eraseAll (fun n_ => B3 n_ [2, 3]) ((fun i => (((List.replicate 64 [(.bool false)]).flatten).drop (i * 1)).take 1) i_)))], []⟩ [] hq trivial ?_; refine Af (Cd (st' := ⟨[(0, (Vb a_list)), (2, (.vpt 2 64 0 0)), (3, (.vpt 3 64 0 0))], [(2, .arr 1 53 64 Sc), (3, .arr 1 53 64 Sc)], []⟩) (TmpsLe.refl _) (.same (.arr (H7 (e := eB) (d := false) (z := [(.bool false)]) rfl rfl rfl) .nil))) ?_; refine Ae ?_; refine Au ⟨[(2, (.vpt 2 64 0 0)), (3, (.vpt 3 64 0 0)), (6, (Vb a_list)), (7, (.int .i64 (a_list.length : Int))), (8, (.int .i64 (0 : Int)))], [(2, .arr 1 53 64 Sc), (3, .arr 1 53 64 Sc)], []⟩ hq ?_; refine Aj ?_; refine Af (st' := (fun ((i1, l2) : (Int × List (Bool))) => (⟨(Q173 a_list i1), (Q175 l2), []⟩ : St)) ((0 : Int), (List.replicate 64 false))) (Le.refl _ _) ?_; obtain ⟨x6, hx6, h⟩ := bind_some h; refine Bh (fun ((i1, l2) : (Int × List (Bool))) => (⟨(Q173 a_list i1), (Q175 l2), []⟩ : St)) _ (fun (l3 : List (Bool)) (e : Exit) (st : St) => e = (.exit 0) ∧ Le Γ st (⟨[(2, (.vpt 2 64 0 0)), (3, (.vpt 3 64 0 0))], [(2, .arr 1 53 64 Sc), (3, .arr 1 53 64 (fun i => eB (l3.getD i false)))], []⟩ : St)) ?_ hx6 ?_
  · rintro ⟨i1, l2⟩ y h; unfold Ds at h; refine Au ⟨[(2, (.vpt 2 64 0 0)), (3, (.vpt 3 64 0 0)), (6, (Vb a_list)), (7, (.int .i64 (a_list.length : Int))), (8, (.int .i64 i1)), (9, (.bool (decide ((i1 : Int) < (a_list.length : Int)))))], (Q175 l2), []⟩ hq ?_; refine Ae ?_; refine Ak (decide ((i1 : Int) < (a_list.length : Int))) (by kernel_rfl) (fun hb => ?_) (fun hb => ?_)
    · replace h := Aq hb h; clear hb; refine Ai ?_; refine Aa ?_; refine Ae ?_; refine Aj ?_; obtain ⟨hc4, h⟩ := Ab h; refine B6 [] [] ⟨[(2, (.vpt 2 64 0 0)), (3, (.vpt 3 64 0 0)), (5, (.int .i64 (a_list.getD (i1).toNat (0 : Int)))), (6, (Vb a_list)), (7, (.int .i64 (a_list.length : Int))), (8, (.int .i64 i1))], (Q175 l2), []⟩ [(A8 i1 a_list.length)] hq ⟨hc4, trivial⟩ ?_; obtain ⟨hc5, h⟩ := Ab h; refine rg [] [] ⟨(Q173 a_list i1), [(2, .arr 1 53 64 Sc), (3, .arr 1 53 64 (fun i_ => AV.eraseAll (fun n_ => B3 n_ [2, 3]) ((E6 (fun i => eB (l2.getD i false)) ((a_list.getD (i1).toNat (0 : Int))).toNat 0 [(.bool true)]) i_)))], []⟩ [(A8 (a_list.getD (i1).toNat (0 : Int)) 64), (64 = 64)] hq ⟨hc5, rfl, trivial⟩ ?_; refine Am ?_; refine Aa ?_; refine Af (Cd (st' := ⟨(Q173 a_list i1), [(2, .arr 1 53 64 Sc), (3, .arr 1 53 64 (fun i => eB ((Dp 64 false l2 ((a_list.getD (i1).toNat (0 : Int))).toNat true).getD i false)))], []⟩) (TmpsLe.refl _) (.same (.arr (Bc rfl (fun k_ hk_ => (congrArg (AV.eraseAll (fun n_ => B3 n_ [2, 3])) ((Fc (fun _ _ => rfl) (Dy hc5) rfl) k_ hk_)).trans rfl)) .nil))) ?_; refine Mq ⟨[(2, (.vpt 2 64 0 0)), (3, (.vpt 3 64 0 0)), (6, (Vb a_list)), (7, (.int .i64 (a_list.length : Int))), (8, (.int .i64 (A0 (i1 + (1 : Int)))))], [(2, .arr 1 53 64 Sc), (3, .arr 1 53 64 (fun i => eB ((Dp 64 false l2 ((a_list.getD (i1).toNat (0 : Int))).toNat true).getD i false)))], []⟩ hq ?_; obtain rfl := OI h; exact ⟨rfl, Le.refl _ _⟩
    · replace h := Ay hb h; clear hb; refine Bi ?_; refine A6 ?_; obtain rfl := OI h; exact ⟨(by intro hh; cases hh), rfl, F2 [2, 3] [2, 3] hq⟩
  · clear hx6; rintro e st' ⟨rfl, hl7⟩; refine A1 ?_; refine Aa ?_; refine Af hl7 ?_; refine B6 [] [] ⟨[(2, (.vpt 2 64 0 0))], [(2, .arr 1 53 64 (fun i_ => AV.eraseAll (fun n_ => B3 n_ [2]) ((fun i_ => (((Fn x6)).drop (i_ * 1)).take 1) i_)))], []⟩ [(64 = 64), (64 = 64)] hq ⟨rfl, rfl, trivial⟩ ?_; refine Af (Cd (st' := ⟨[(2, (.vpt 2 64 0 0))], [(2, .arr 1 53 64 (fun i => eB (x6.getD i false)))], []⟩) (TmpsLe.refl _) (.arr (Bc rfl (fun k_ hk_ => (congrArg (AV.eraseAll (fun n_ => B3 n_ [2])) ((Kn (n := 64) (sz := 1) (f := (fun i => eB (x6.getD i false))) (fun _ _ => rfl)) k_ hk_)).trans rfl)) .nil)) ?_; refine Ar ?_; obtain rfl := OI h; exact ⟨.inl rfl, [], by kernel_rfl⟩
def Y8 : AV := (AV.list 1 Ac (0 : Int) ([] : List Int) .exact)
def Q177 := (⟨[(2, (.vsl 36002 ([] : List Int).length))], [(36002, .arr 1 3 (([] : List Int).length) (fun i => Ac (([] : List Int).getD i (0 : Int))))], []⟩ : St)
def Cy (a_s : List (Int)) : Option (List (Int)) :=
  (Cl (a_s.length ≤ room) (some a_s))
theorem In (a_s : List (Int)) (r : List (Int)) (h : Cy a_s = some r) : Spec Try.prog 42 [(AV.list 1 Ac (0 : Int) a_s .none)] [] (.vsl 20000 r.length) [(20000, .arr 1 3 r.length (fun i => Ac (r.getD i (0 : Int))))] := by
  refine An (fn := Try.f42) Try.func42 rfl rfl (by kernel_rfl) (fun Γ hn hΓ => ?_); have hq : RgQ Try.prog Γ 8 [] := ⟨hn, mix, hΓ⟩; unfold Cy at h; refine B6 [] [(2, Y8)] ⟨[(0, (AV.list 1 Ac (0 : Int) a_s .none))], [], []⟩ [(AVle (.slice 0 0 (fun _ => []) .exact) Y8)] hq ⟨D2, trivial⟩ ?_; refine Ae ?_; refine Au ⟨[(0, (AV.list 1 Ac (0 : Int) a_s .none)), (4, (.nilq true a_s.length))], [], []⟩ hq ?_; refine Wv true a_s.length (by kernel_rfl) (fun hb => ?_) (fun hb => ?_)
  · replace h := nil_at (some ([] : List Int)) (fun (l2 : List Int) => (Cl (l2.length ≤ room) (some l2))) h (hb rfl) rfl (fun h0 => by first | exact h0 | simpa [Cl, room] using h0); clear hb; refine B6 [] [(2, Y8)] ⟨[(2, Y8)], [], []⟩ [(AVle (.slice 0 0 (fun _ => []) .exact) Y8)] hq ⟨D2, trivial⟩ ?_; refine Af (st' := Q177) (Le.trans (le_arr (t := 2) (nm := 36002) (sz' := 1) (fun i => Ac (([] : List Int).getD i (0 : Int))) 3 rfl rfl) (F2 (st' := Q177) [2] [36002] hq)) ?_; refine Ar ?_; refine A3 ?_; obtain rfl := OI h; exact ⟨.inl rfl, [(36002, 20000)], by kernel_rfl⟩
  · clear hb; refine Ai ?_; refine Aa ?_; obtain ⟨hc1, h⟩ := Ab h; refine B6 [] [(5, Y8), (7, .vsl 7 0)] ⟨[(2, (.vsl 7 a_s.length))], [(7, .arr 1 3 a_s.length (fun i => Ac (a_s.getD i (0 : Int))))], []⟩ [(AVle (.slice 1 0 (fun i => ([] : List (List AV)).getD i []) .exact) Y8), (a_s.length ≤ room)] hq ⟨E5 rfl (fun i hi => absurd hi (Nat.not_lt_zero i)), hc1, trivial⟩ ?_; refine Ar ?_; obtain rfl := OI h; exact ⟨.inl rfl, [(7, 20000)], by kernel_rfl⟩
def B1 (a_m : List (Bool)) : (List (Int) × Int) → Option (LR (List (Int) × Int) (List (Int))) :=
  fun ((l1, i2) : (List (Int) × Int)) => (bif (decide ((i2 : Int) < (64 : Int))) then (Option.bind (α := List (Int)) (Cl (A8 i2 64) (bif (a_m.getD (i2).toNat false) then (Cl (l1.length + ([i2] : List (Int)).length ≤ room) (some ((l1 ++ ([i2] : List (Int)))))) else (some (l1)))) (fun x7 => ((some (.next (x7, (A0 (i2 + (1 : Int))))))))) else (some (.done l1)))
def Qd (i2 : Int) := ([i2] : List (Int))
def Q179 (l1 : List (Int)) : AV := (AV.list 1 Ac (0 : Int) l1 (.own 5003))
def Q178 : AV := (AV.list 1 Ac (0 : Int) ([] : List Int) .exact)
def Dk (a_m : List (Bool)) : Option (List (Int)) :=
  ((Aw (S := (List (Int) × Int)) (X := List (Int)) (B1 a_m) (([] : List Int), (0 : Int))).bind (fun x9 => ((some x9))))
theorem Hn (a_m : List (Bool)) (r : List (Int)) (h : Dk a_m = some r) : Spec Try.prog 46 [(.agg (Fn a_m))] [] (AV.list 1 Ac (0 : Int) r (.own 20000)) [(20000, .tok 1 3 r.length)] := by
  refine An (fn := Try.f46) Try.func46 rfl rfl (by kernel_rfl) (fun Γ hn hΓ => ?_); have hq : RgQ Try.prog Γ 18 [] := ⟨hn, mix, hΓ⟩; unfold Dk at h; refine B6 [] [(1, (.vpt 1 64 0 0)), (2, Q178)] ⟨[(1, (.vpt 1 64 0 0))], [(1, .arr 1 53 64 (fun i_ => AV.eraseAll (fun n_ => B3 n_ [1]) ((fun i_ => (((Fn a_m)).drop (i_ * 1)).take 1) i_)))], []⟩ [(AVle (.slice 0 0 (fun _ => []) .exact) Q178)] hq ⟨D2, trivial⟩ ?_; refine Af (Cd (st' := ⟨[(1, (.vpt 1 64 0 0))], [(1, .arr 1 53 64 (fun i => eB (a_m.getD i false)))], []⟩) (TmpsLe.refl _) (.arr (Bc rfl (fun k_ hk_ => (congrArg (AV.eraseAll (fun n_ => B3 n_ [1])) ((Kn (n := 64) (sz := 1) (f := (fun i => eB (a_m.getD i false))) (fun _ _ => rfl)) k_ hk_)).trans rfl)) .nil)) ?_; refine B6 [] [(3, Q178)] ⟨[(1, (.vpt 1 64 0 0)), (3, Q178)], [(1, .arr 1 53 64 (fun i => eB (a_m.getD i false)))], []⟩ [(AVle (.slice 0 0 (fun _ => []) .exact) Q178)] hq ⟨D2, trivial⟩ ?_; refine Ae ?_; refine B6 [] [] ⟨[(3, Q178), (6, (.agg (Fn a_m))), (7, (.int .i64 (0 : Int)))], [], []⟩ [(64 = 64)] hq ⟨rfl, trivial⟩ ?_; refine Aj ?_; refine Af (st' := (fun ((l1, i2) : (List (Int) × Int)) => (⟨[(3, (Q179 l1)), (6, (.agg (Fn a_m))), (7, (.int .i64 i2))], [(5003, .tok 1 3 l1.length)], []⟩ : St)) (([] : List Int), (0 : Int))) (Le.trans (O1 (t := 3) (nm := 5003) (sz' := 1) (fun i => Ac (([] : List Int).getD i (0 : Int))) 3 rfl rfl (.inl ⟨rfl, rfl⟩) (fun h_ => absurd h_ (by decide))) (F2 (st' := ⟨[(3, (AV.list 1 Ac (0 : Int) ([] : List Int) (.own 5003))), (6, (.agg (Fn a_m))), (7, (.int .i64 (0 : Int)))], [(5003, .tok 1 3 (([] : List Int).length))], []⟩) [3, 6, 7] [5003] hq)) ?_; obtain ⟨x9, hx9, h⟩ := bind_some h; refine Bh (fun ((l1, i2) : (List (Int) × Int)) => (⟨[(3, (Q179 l1)), (6, (.agg (Fn a_m))), (7, (.int .i64 i2))], [(5003, .tok 1 3 l1.length)], []⟩ : St)) _ (fun (l3 : List (Int)) (e : Exit) (st : St) => e = (.exit 0) ∧ Le Γ st (⟨[(3, (AV.list 1 Ac (0 : Int) l3 (.own 5003)))], [(5003, .tok 1 3 l3.length)], []⟩ : St)) ?_ hx9 ?_
  · rintro ⟨l1, i2⟩ y h; unfold B1 at h; refine Au ⟨[(3, (Q179 l1)), (6, (.agg (Fn a_m))), (7, (.int .i64 i2)), (8, (.bool (decide ((i2 : Int) < (64 : Int)))))], [(5003, .tok 1 3 l1.length)], []⟩ hq ?_; refine Ae ?_; refine Ak (decide ((i2 : Int) < (64 : Int))) (by kernel_rfl) (fun hb => ?_) (fun hb => ?_)
    · replace h := Aq hb h; clear hb; refine Ai ?_; refine Aa ?_; refine Ae ?_; obtain ⟨x7, hx7, h⟩ := bind_some h; refine Ez (fun (l4 : List (Int)) (e : Exit) (st : St) => e = .normal ∧ Le Γ st (⟨[(3, (AV.list 1 Ac (0 : Int) l4 (.own 5003))), (6, (.agg (Fn a_m))), (7, (.int .i64 i2))], [(5003, .tok 1 3 l4.length)], []⟩ : St)) hx7 ?_ ?_
      · clear h hx7; intro y h; refine Aj ?_; obtain ⟨hc5, h⟩ := Ab h; refine B6 [] [(10, (.bool (a_m.getD (i2).toNat false)))] ⟨[(3, (Q179 l1)), (4, (.int .i64 i2)), (5, (.bool (a_m.getD (i2).toNat false))), (6, (.agg (Fn a_m))), (7, (.int .i64 i2))], [(5003, .tok 1 3 l1.length)], []⟩ [(A8 i2 64), (AVle ((Fn a_m).getD (i2).toNat .any) (.bool (a_m.getD (i2).toNat false)))] hq ⟨hc5, (flat_at (n := 64) (f := fun i => eB (a_m.getD i false)) rfl (fun _ _ => rfl) (Dy hc5) rfl), trivial⟩ ?_; refine Au ⟨[(3, (Q179 l1)), (4, (.int .i64 i2)), (6, (.agg (Fn a_m))), (7, (.int .i64 i2)), (11, (.bool (a_m.getD (i2).toNat false)))], [(5003, .tok 1 3 l1.length)], []⟩ hq ?_; refine Ak (a_m.getD (i2).toNat false) (by kernel_rfl) (fun hb => ?_) (fun hb => ?_)
        · replace h := Aq hb h; clear hb; obtain ⟨hc6, h⟩ := Ab h; refine rg [] [(14, (AV.list 1 Ac (0 : Int) (Qd i2) .exact)), (15, (AV.list 1 Ac (0 : Int) (l1 ++ (Qd i2)) (.own 5003)))] ⟨[(3, (AV.list 1 Ac (0 : Int) (l1 ++ (Qd i2)) (.own 5003))), (6, (.agg (Fn a_m))), (7, (.int .i64 i2))], [(5003, .tok 1 3 ((l1 ++ (Qd i2)).length))], []⟩ [(AVle (.slice 1 1 (fun i => ([[(.int .i64 i2)]] : List (List AV)).getD i []) .exact) (AV.list 1 Ac (0 : Int) (Qd i2) .exact)), (l1.length = l1.length), (l1.length + (Qd i2).length ≤ room), (AVle (.slice 1 (l1.length + (Qd i2).length) (E1 l1.length (fun i => Ac (l1.getD i (0 : Int))) (fun i => Ac ((Qd i2).getD i (0 : Int)))) (.own 5003)) (AV.list 1 Ac (0 : Int) (l1 ++ (Qd i2)) (.own 5003))), (l1.length + (Qd i2).length = (l1 ++ (Qd i2)).length)] hq ⟨(E5 rfl (fun i hi => En (e := Ac) (d := (0 : Int)) (Qd i2) i hi)), rfl, hc6, Nf, (D7 _ _), trivial⟩ ?_; refine Am ?_; obtain rfl := OI h; exact ⟨rfl, Le.refl _ _⟩
        · replace h := Ay hb h; clear hb; refine Ai ?_; refine Am ?_; obtain rfl := OI h; exact ⟨rfl, F2 [3, 6, 7] [5003] hq⟩
      · clear hx7; rintro e st' ⟨rfl, hl8⟩; refine Aa ?_; refine Af hl8 ?_; refine Mq ⟨[(3, (AV.list 1 Ac (0 : Int) x7 (.own 5003))), (6, (.agg (Fn a_m))), (7, (.int .i64 (A0 (i2 + (1 : Int)))))], [(5003, .tok 1 3 x7.length)], []⟩ hq ?_; obtain rfl := OI h; exact ⟨rfl, Le.refl _ _⟩
    · replace h := Ay hb h; clear hb; refine Bi ?_; refine A6 ?_; obtain rfl := OI h; exact ⟨(by intro hh; cases hh), rfl, F2 [3] [5003] hq⟩
  · clear hx9; rintro e st' ⟨rfl, hl10⟩; refine A1 ?_; refine Aa ?_; refine Af hl10 ?_; refine Au ⟨[(2, (AV.list 1 Ac (0 : Int) x9 (.own 5003)))], [(5003, .tok 1 3 x9.length)], []⟩ hq ?_; refine Ar ?_; obtain rfl := OI h; exact ⟨.inl rfl, [(5003, 20000)], by kernel_rfl⟩
def Dj (a_pred : List (List (Int))) (a_reached : List (Bool)) : (List (Bool) × List (Int)) → Option (LR (List (Bool) × List (Int)) (List (Int))) :=
  fun (s_ : (List (Bool) × List (Int))) => match s_ with | (l1, l2) => (bif (((l2.length : Int) : Int) == (0 : Int)) then ((Dk l1).bind fun x17 => (some (.done x17))) else (Cl (A8 (A0 ((l2.length : Int) - (1 : Int))) l2.length) (Cl (0 ≤ (A0 ((l2.length : Int) - (1 : Int))) ∧ 0 + ((A0 ((l2.length : Int) - (1 : Int)))).toNat ≤ l2.length) (Option.bind (α := (List (Bool) × List (Int))) (Cl (A8 (l2.getD ((A0 ((l2.length : Int) - (1 : Int)))).toNat (0 : Int)) 64) (Cl (((a_reached.getD ((l2.getD ((A0 ((l2.length : Int) - (1 : Int)))).toNat (0 : Int))).toNat false) == true) = true → (A8 (l2.getD ((A0 ((l2.length : Int) - (1 : Int)))).toNat (0 : Int)) 64)) (bif (bif (a_reached.getD ((l2.getD ((A0 ((l2.length : Int) - (1 : Int)))).toNat (0 : Int))).toNat false) then (!(l1.getD ((l2.getD ((A0 ((l2.length : Int) - (1 : Int)))).toNat (0 : Int))).toNat false)) else false) then (Cl (A8 (l2.getD ((A0 ((l2.length : Int) - (1 : Int)))).toNat (0 : Int)) 64) (Cl (A8 (l2.getD ((A0 ((l2.length : Int) - (1 : Int)))).toNat (0 : Int)) a_pred.length) (Cl ((l2.take ((A0 ((l2.length : Int) - (1 : Int)))).toNat).length + (a_pred.getD ((l2.getD ((A0 ((l2.length : Int) - (1 : Int)))).toNat (0 : Int))).toNat []).length ≤ room) (some (((Dp 64 false l1 ((l2.getD ((A0 ((l2.length : Int) - (1 : Int)))).toNat (0 : Int))).toNat true), ((l2.take ((A0 ((l2.length : Int) - (1 : Int)))).toNat) ++ (a_pred.getD ((l2.getD ((A0 ((l2.length : Int) - (1 : Int)))).toNat (0 : Int))).toNat [])))))))) else (some ((l1, (l2.take ((A0 ((l2.length : Int) - (1 : Int)))).toNat))))))) (fun x27 => (match x27 with | (l20, l21) => (some (.next (l20, l21)))))))))
def Xb := (fun n_ => B3 n_ [5, 9, 15])
def Q191 (l1 : List (Bool)) := (fun i => eB (l1.getD i false))
def Fu (a_pred : List (List (Int))) : AV := (AV.list 1 At [] a_pred .none)
def K8 (l2 : List (Int)) := (l2.getD ((A0 ((l2.length : Int) - (1 : Int)))).toNat (0 : Int))
def Th (a_pred : List (List (Int))) (l2 : List (Int)) := (a_pred.getD ((K8 l2)).toNat [])
def K2 (x4 : List (Int)) := (x4.getD ((A0 ((x4.length : Int) - (1 : Int)))).toNat (0 : Int))
def Tx (a_pred : List (List (Int))) (x4 : List (Int)) := (a_pred.getD ((K2 x4)).toNat [])
def Q192 (x4 : List (Int)) := (fun i => Ac (x4.getD i (0 : Int)))
def G3 (a_reached : List (Bool)) := (fun i => eB (a_reached.getD i false))
def P7 (a_reached : List (Bool)) (l2 : List (Int)) := (a_reached.getD ((K8 l2)).toNat false)
def Qe (a_reached : List (Bool)) (x4 : List (Int)) := (a_reached.getD ((K2 x4)).toNat false)
def Z1 (a_begins : List (Int)) : AV := (AV.list 1 Ac (0 : Int) a_begins .none)
def Q186 (a_head : Int) := (Dp 64 false (List.replicate 64 false) (a_head).toNat true)
def Yx (a_head : Int) := (fun i => eB ((Q186 a_head).getD i false))
def Jq (l2 : List (Int)) := (l2.take ((A0 ((l2.length : Int) - (1 : Int)))).toNat)
def Q201 (l2 : List (Int)) := (fun i => Ac ((Jq l2).getD i (0 : Int)))
def J2 (x4 : List (Int)) := (x4.take ((A0 ((x4.length : Int) - (1 : Int)))).toNat)
def Q202 (x4 : List (Int)) := (fun i => Ac ((J2 x4).getD i (0 : Int)))
def Aae (l2 : List (Int)) := (0 + ((A0 ((l2.length : Int) - (1 : Int)))).toNat)
def Zg (x4 : List (Int)) := (0 + ((A0 ((x4.length : Int) - (1 : Int)))).toNat)
def Q200 (l1 : List (Bool)) (l2 : List (Int)) := (fun i => eB ((Dp 64 false l1 ((K8 l2)).toNat true).getD i false))
def Q199 (a_head : Int) (x4 : List (Int)) := (fun i => eB ((Dp 64 false (Q186 a_head) ((K2 x4)).toNat true).getD i false))
def Q194 (a_reached : List (Bool)) (l1 : List (Bool)) (l2 : List (Int)) : List (Nat × Own) := [(5, .arr 1 53 64 (G3 a_reached)), (9, .arr 1 53 64 (Q191 l1)), (15, .arr 1 3 l2.length (fun i => Ac (l2.getD i (0 : Int))))]
def Q193 (a_reached : List (Bool)) (a_head : Int) (x4 : List (Int)) : List (Nat × Own) := [(5, .arr 1 53 64 (G3 a_reached)), (9, .arr 1 53 64 (Yx a_head)), (15, .arr 1 3 x4.length (Q192 x4))]
def Hs (a_pred : List (List (Int))) (a_reached : List (Bool)) (a_head : Int) (a_begins : List (Int)) : Option (List (Int)) :=
  ((Kq (S := (List (Bool) × List (Int))) (X := List (Int)) (Cl (A8 a_head 64) ((Cy a_begins).bind fun x4 => (bif (((x4.length : Int) : Int) == (0 : Int)) then ((Dk (Dp 64 false (List.replicate 64 false) (a_head).toNat true)).bind fun x5 => (some (.done x5))) else (Cl (A8 (A0 ((x4.length : Int) - (1 : Int))) x4.length) (Cl (0 ≤ (A0 ((x4.length : Int) - (1 : Int))) ∧ 0 + ((A0 ((x4.length : Int) - (1 : Int)))).toNat ≤ x4.length) (Option.bind (α := (List (Bool) × List (Int))) (Cl (A8 (x4.getD ((A0 ((x4.length : Int) - (1 : Int)))).toNat (0 : Int)) 64) (Cl (((a_reached.getD ((x4.getD ((A0 ((x4.length : Int) - (1 : Int)))).toNat (0 : Int))).toNat false) == true) = true → (A8 (x4.getD ((A0 ((x4.length : Int) - (1 : Int)))).toNat (0 : Int)) 64)) (bif (bif (a_reached.getD ((x4.getD ((A0 ((x4.length : Int) - (1 : Int)))).toNat (0 : Int))).toNat false) then (!((Dp 64 false (List.replicate 64 false) (a_head).toNat true).getD ((x4.getD ((A0 ((x4.length : Int) - (1 : Int)))).toNat (0 : Int))).toNat false)) else false) then (Cl (A8 (x4.getD ((A0 ((x4.length : Int) - (1 : Int)))).toNat (0 : Int)) 64) (Cl (A8 (x4.getD ((A0 ((x4.length : Int) - (1 : Int)))).toNat (0 : Int)) a_pred.length) (Cl ((x4.take ((A0 ((x4.length : Int) - (1 : Int)))).toNat).length + (a_pred.getD ((x4.getD ((A0 ((x4.length : Int) - (1 : Int)))).toNat (0 : Int))).toNat []).length ≤ room) (some (((Dp 64 false (Dp 64 false (List.replicate 64 false) (a_head).toNat true) ((x4.getD ((A0 ((x4.length : Int) - (1 : Int)))).toNat (0 : Int))).toNat true), ((x4.take ((A0 ((x4.length : Int) - (1 : Int)))).toNat) ++ (a_pred.getD ((x4.getD ((A0 ((x4.length : Int) - (1 : Int)))).toNat (0 : Int))).toNat [])))))))) else (some (((Dp 64 false (List.replicate 64 false) (a_head).toNat true), (x4.take ((A0 ((x4.length : Int) - (1 : Int)))).toNat))))))) (fun x15 => (match x15 with | (l8, l9) => (some (.next (l8, l9))))))))))) (Dj a_pred a_reached)).bind (fun x29 => ((some x29))))
theorem U9 (a_pred : List (List (Int))) (a_reached : List (Bool)) (a_head : Int) (a_begins : List (Int)) (r : List (Int)) (h : Hs a_pred a_reached a_head a_begins = some r) : Spec Try.prog 31 [(AV.list 1 At [] a_pred .none), (.agg (Fn a_reached)), (.int .i64 a_head), (AV.list 1 Ac (0 : Int) a_begins .none)] [] (AV.list 1 Ac (0 : Int) r (.own 20000)) [(20000, .tok 1 3 r.length)] := by
  refine An (fn := Try.f31) Try.func31 rfl rfl (by kernel_rfl) (fun Γ hn hΓ => ?_); have hq : RgQ Try.prog Γ 49 [] := ⟨hn, mix, hΓ⟩; unfold Hs at h; refine B6 [] [(5, (.vpt 5 64 0 0)), (8, (AV.list 1 Ac (0 : Int) ([] : List Int) .exact))] ⟨[(0, (Fu a_pred)), (2, (.int .i64 a_head)), (3, (Z1 a_begins)), (5, (.vpt 5 64 0 0))], [(5, .arr 1 53 64 (fun i_ => AV.eraseAll (fun n_ => B3 n_ [5]) ((fun i_ => (((Fn a_reached)).drop (i_ * 1)).take 1) i_)))], []⟩ [(AVle (.slice 0 0 (fun _ => []) .exact) (AV.list 1 Ac (0 : Int) ([] : List Int) .exact))] hq ⟨D2, trivial⟩ ?_; refine Af (Cd (st' := ⟨[(0, (Fu a_pred)), (2, (.int .i64 a_head)), (3, (Z1 a_begins)), (5, (.vpt 5 64 0 0))], [(5, .arr 1 53 64 (G3 a_reached))], []⟩) (TmpsLe.refl _) (.arr (Bc rfl (fun k_ hk_ => (congrArg (AV.eraseAll (fun n_ => B3 n_ [5])) ((Kn (n := 64) (sz := 1) (f := (G3 a_reached)) (fun _ _ => rfl)) k_ hk_)).trans rfl)) .nil)) ?_; obtain ⟨x29, hx29, h⟩ := bind_some h; refine Pf (S := (List (Bool) × List (Int))) (X := List (Int)) (fun (s_ : (List (Bool) × List (Int))) => match s_ with | (l1, l2) => 0) (fun (s_ : (List (Bool) × List (Int))) => match s_ with | (l1, l2) => (⟨[(0, (Fu a_pred)), (5, (.vpt 5 64 0 0)), (9, (.vpt 9 64 0 0)), (10, (.vsl 15 l2.length))], (Q194 a_reached l1 l2), []⟩ : St)) _ _ (fun (r_ : List (Int)) (e : Exit) (st : St) => e = .ret ∧ La Try.prog Try.f31.results.toList [] (AV.list 1 Ac (0 : Int) r_ (.own 20000)) [(20000, .tok 1 3 r_.length)] e st) ?_ ?_ hx29 ?_
  · clear h hx29; intro y h; refine B6 [] [(9, (.vpt 9 64 0 0))] ⟨[(0, (Fu a_pred)), (2, (.int .i64 a_head)), (3, (Z1 a_begins)), (5, (.vpt 5 64 0 0)), (9, (.vpt 9 64 0 0))], [(5, .arr 1 53 64 (G3 a_reached)), (9, .arr 1 53 64 (fun i_ => AV.eraseAll (fun n_ => B3 n_ [5, 9]) ((fun i => (((List.replicate 64 [(.bool false)]).flatten).drop (i * 1)).take 1) i_)))], []⟩ [] hq trivial ?_; refine Af (Cd (st' := ⟨[(0, (Fu a_pred)), (2, (.int .i64 a_head)), (3, (Z1 a_begins)), (5, (.vpt 5 64 0 0)), (9, (.vpt 9 64 0 0))], [(5, .arr 1 53 64 (G3 a_reached)), (9, .arr 1 53 64 (fun i => eB ((List.replicate 64 false).getD i false)))], []⟩) (TmpsLe.refl _) (.same (.arr (H7 (e := eB) (d := false) (z := [(.bool false)]) rfl rfl rfl) .nil))) ?_; obtain ⟨hc3, h⟩ := Ab h; refine B6 [] [] ⟨[(0, (Fu a_pred)), (3, (Z1 a_begins)), (5, (.vpt 5 64 0 0)), (9, (.vpt 9 64 0 0))], [(5, .arr 1 53 64 (G3 a_reached)), (9, .arr 1 53 64 (fun i_ => AV.eraseAll (fun n_ => B3 n_ [5, 9]) ((E6 (fun i => eB ((List.replicate 64 false).getD i false)) (a_head).toNat 0 [(.bool true)]) i_)))], []⟩ [(A8 a_head 64), (64 = 64)] hq ⟨hc3, rfl, trivial⟩ ?_; refine Af (Cd (st' := ⟨[(0, (Fu a_pred)), (3, (Z1 a_begins)), (5, (.vpt 5 64 0 0)), (9, (.vpt 9 64 0 0))], [(5, .arr 1 53 64 (G3 a_reached)), (9, .arr 1 53 64 (Yx a_head))], []⟩) (TmpsLe.refl _) (.same (.arr (Bc rfl (fun k_ hk_ => (congrArg (AV.eraseAll (fun n_ => B3 n_ [5, 9])) ((Fc (fun _ _ => rfl) (Dy hc3) rfl) k_ hk_)).trans rfl)) .nil))) ?_; obtain ⟨x4, hx4, h⟩ := bind_some h; refine B6 [⟨[], [(20000, 15)], (.vsl 20000 x4.length), [(20000, .arr 1 3 x4.length (Q192 x4))], []⟩] [] ⟨[(0, (Fu a_pred)), (5, (.vpt 5 64 0 0)), (9, (.vpt 9 64 0 0)), (10, (.vsl 15 x4.length))], (Q193 a_reached a_head x4), []⟩ [(Spec Try.prog 42 [(Z1 a_begins)] [] (.vsl 20000 x4.length) [(20000, .arr 1 3 x4.length (Q192 x4))])] hq ⟨(In a_begins x4 hx4), trivial⟩ ?_; refine Ae ?_; refine O0 ?_; refine Aa ?_; refine Ae ?_; refine Au ⟨[(0, (Fu a_pred)), (5, (.vpt 5 64 0 0)), (9, (.vpt 9 64 0 0)), (10, (.vsl 15 x4.length)), (18, (.bool (((x4.length : Int) : Int) == (0 : Int))))], (Q193 a_reached a_head x4), []⟩ hq ?_; refine Ak (((x4.length : Int) : Int) == (0 : Int)) (by kernel_rfl) (fun hb => ?_) (fun hb => ?_)
    · replace h := Aq hb h; clear hb; obtain ⟨x5, hx5, h⟩ := bind_some h; refine B6 [⟨[], [(20000, 20)], (AV.list 1 Ac (0 : Int) x5 (.own 20000)), [(20000, .tok 1 3 x5.length)], []⟩] [] ⟨[(8, (AV.list 1 Ac (0 : Int) x5 (.own 20)))], [(20, .tok 1 3 x5.length)], []⟩ [(64 = 64), (Spec Try.prog 46 [(.agg (Fn (Q186 a_head)))] [] (AV.list 1 Ac (0 : Int) x5 (.own 20000)) [(20000, .tok 1 3 x5.length)])] hq ⟨rfl, (Hn (Q186 a_head) x5 hx5), trivial⟩ ?_; refine Ar ?_; refine A3 ?_; obtain rfl := OI h; exact ⟨(by intro l hh; cases hh), rfl, ⟨.inl rfl, [(20, 20000)], by kernel_rfl⟩⟩
    · replace h := Ay hb h; clear hb; refine Ai ?_; refine Aa ?_; obtain ⟨hc6, h⟩ := Ab h; refine B6 [] [] ⟨[(0, (Fu a_pred)), (5, (.vpt 5 64 0 0)), (9, (.vpt 9 64 0 0)), (10, (.vsl 15 x4.length)), (11, (.int .i64 (K2 x4)))], (Q193 a_reached a_head x4), []⟩ [(A8 (A0 ((x4.length : Int) - (1 : Int))) x4.length), (x4.length = x4.length)] hq ⟨hc6, rfl, trivial⟩ ?_; obtain ⟨hc7, h⟩ := Ab h; refine B6 [] [] ⟨[(0, (Fu a_pred)), (5, (.vpt 5 64 0 0)), (9, (.vpt 9 64 0 0)), (10, (.vsub 15 x4.length 0 (Zg x4))), (11, (.int .i64 (K2 x4)))], (Q193 a_reached a_head x4), []⟩ [(0 ≤ (A0 ((x4.length : Int) - (1 : Int))) ∧ 0 + ((A0 ((x4.length : Int) - (1 : Int)))).toNat ≤ x4.length)] hq ⟨hc7, trivial⟩ ?_; refine Af (Le.trans (Le.trans (Og (t := 10) (r := 15) (k := (Zg x4)) rfl rfl hc7.2 (by kernel_rfl) (.arr (fun _ => by kernel_rfl) (.arr (fun _ => by kernel_rfl) (.arr (fun _ => by kernel_rfl) .nil))) (by rw [hΓ]; rfl)) (B0 (st' := ⟨[(0, (Fu a_pred)), (5, (.vpt 5 64 0 0)), (9, (.vpt 9 64 0 0)), (10, (.vsl 15 (Zg x4))), (11, (.int .i64 (K2 x4)))], [(5, .arr 1 53 64 (G3 a_reached)), (9, .arr 1 53 64 (Yx a_head)), (15, .arr 1 3 (Zg x4) (Q192 x4))], []⟩) (by kernel_rfl))) (Le.trans (Cd (st' := ⟨[(0, (Fu a_pred)), (5, (.vpt 5 64 0 0)), (9, (.vpt 9 64 0 0)), (10, (.vsl 15 (Zg x4))), (11, (.int .i64 (K2 x4)))], [(5, .arr 1 53 64 (G3 a_reached)), (9, .arr 1 53 64 (Yx a_head)), (15, .arr 1 3 (Zg x4) (Q202 x4))], []⟩) (TmpsLe.refl _) (.same (.same (.arr (Qj (e := Ac) (d := (0 : Int))) .nil)))) (B0 (congrArg (fun k_ : Nat => (⟨[(0, (Fu a_pred)), (5, (.vpt 5 64 0 0)), (9, (.vpt 9 64 0 0)), (10, (.vsl 15 k_)), (11, (.int .i64 (K2 x4)))], [(5, .arr 1 53 64 (G3 a_reached)), (9, .arr 1 53 64 (Yx a_head)), (15, .arr 1 3 k_ (Q202 x4))], []⟩ : St)) (show (Zg x4) = (J2 x4).length from Ok hc7.2))))) ?_; refine Ae ?_; obtain ⟨x15, hx15, h⟩ := bind_some h; refine Ez (fun ((l8, l9) : (List (Bool) × List (Int))) (e : Exit) (st : St) => e = .normal ∧ Le Γ st (⟨[(0, (Fu a_pred)), (5, (.vpt 5 64 0 0)), (9, (.vpt 9 64 0 0)), (10, (.vsl 15 l9.length))], [(5, .arr 1 53 64 (G3 a_reached)), (9, .arr 1 53 64 (fun i => eB (l8.getD i false))), (15, .arr 1 3 l9.length (fun i => Ac (l9.getD i (0 : Int))))], []⟩ : St)) hx15 ?_ ?_
      · clear h hx15; intro y h; obtain ⟨hc10, h⟩ := Ab h; obtain ⟨hc11, h⟩ := Ab h; refine B6 [] [] ⟨[(0, (Fu a_pred)), (5, (.vpt 5 64 0 0)), (9, (.vpt 9 64 0 0)), (10, (.vsl 15 (J2 x4).length)), (11, (.int .i64 (K2 x4))), (40, (.bool (bif (Qe a_reached x4) then (!((Q186 a_head).getD ((K2 x4)).toNat false)) else false)))], [(5, .arr 1 53 64 (G3 a_reached)), (9, .arr 1 53 64 (Yx a_head)), (15, .arr 1 3 ((J2 x4).length) (Q202 x4))], []⟩ [(A8 (K2 x4) 64), (64 = 64), (((Qe a_reached x4) == true) = true → ((Qe a_reached x4) == true) = true), (((Qe a_reached x4) == true) = true → (A8 (K2 x4) 64)), (((Qe a_reached x4) == true) = true → ((Qe a_reached x4) == true) = true), (((Qe a_reached x4) == true) = true → (64 = 64)), (((Qe a_reached x4) == true) = true → ((Qe a_reached x4) == true) = true), ((Qe a_reached x4) = true → ((Qe a_reached x4) == true) = true)] hq ⟨hc10, rfl, (fun hg => hg), (fun hg => (hc11 hg)), (fun hg => hg), (fun hg => rfl), (fun hg => hg), gT, trivial⟩ ?_; refine Ak (bif (Qe a_reached x4) then (!((Q186 a_head).getD ((K2 x4)).toNat false)) else false) (by kernel_rfl) (fun hb => ?_) (fun hb => ?_)
        · replace h := Aq hb h; clear hb; obtain ⟨hc12, h⟩ := Ab h; refine B6 [] [] ⟨[(0, (Fu a_pred)), (5, (.vpt 5 64 0 0)), (9, (.vpt 9 64 0 0)), (10, (.vsl 15 (J2 x4).length)), (11, (.int .i64 (K2 x4)))], [(5, .arr 1 53 64 (G3 a_reached)), (9, .arr 1 53 64 (fun i_ => AV.eraseAll Xb ((E6 (Yx a_head) ((K2 x4)).toNat 0 [(.bool true)]) i_))), (15, .arr 1 3 ((J2 x4).length) (Q202 x4))], []⟩ [(A8 (K2 x4) 64), (64 = 64)] hq ⟨hc12, rfl, trivial⟩ ?_; refine Af (Cd (st' := ⟨[(0, (Fu a_pred)), (5, (.vpt 5 64 0 0)), (9, (.vpt 9 64 0 0)), (10, (.vsl 15 (J2 x4).length)), (11, (.int .i64 (K2 x4)))], [(5, .arr 1 53 64 (G3 a_reached)), (9, .arr 1 53 64 (Q199 a_head x4)), (15, .arr 1 3 ((J2 x4).length) (Q202 x4))], []⟩) (TmpsLe.refl _) (.same (.arr (Bc rfl (fun k_ hk_ => (congrArg (AV.eraseAll Xb) ((Fc (fun _ _ => rfl) (Dy hc12) rfl) k_ hk_)).trans rfl)) (.same .nil)))) ?_; obtain ⟨hc13, h⟩ := Ab h; obtain ⟨hc14, h⟩ := Ab h; refine rg [] [] ⟨[(0, (Fu a_pred)), (5, (.vpt 5 64 0 0)), (9, (.vpt 9 64 0 0)), (10, (.vsl 15 ((J2 x4).length + (Tx a_pred x4).length)))], [(5, .arr 1 53 64 (G3 a_reached)), (9, .arr 1 53 64 (Q199 a_head x4)), (15, .arr 1 3 ((J2 x4).length + (Tx a_pred x4).length) (fun i_ => AV.eraseAll Xb ((E1 ((J2 x4).length) (Q202 x4) (fun i => Ac ((Tx a_pred x4).getD i (0 : Int)))) i_)))], []⟩ [(A8 (K2 x4) a_pred.length), ((J2 x4).length = (J2 x4).length), ((J2 x4).length + (Tx a_pred x4).length ≤ room)] hq ⟨hc13, rfl, hc14, trivial⟩ ?_; obtain rfl := OI h; exact ⟨rfl, Le.trans (Le.trans (Cd (st' := ⟨[(0, (Fu a_pred)), (5, (.vpt 5 64 0 0)), (9, (.vpt 9 64 0 0)), (10, (.vsl 15 ((J2 x4).length + (Tx a_pred x4).length)))], [(5, .arr 1 53 64 (G3 a_reached)), (9, .arr 1 53 64 (Q199 a_head x4)), (15, .arr 1 3 ((J2 x4).length + (Tx a_pred x4).length) (fun i => Ac (((J2 x4) ++ (Tx a_pred x4)).getD i (0 : Int))))], []⟩) (TmpsLe.refl _) (.same (.same (.arr (Bc (D7 _ _) (fun k_ hk_ => (congrArg (AV.eraseAll Xb) ((Jt (fun _ _ => rfl) (fun _ _ => rfl)) k_ hk_)).trans rfl)) .nil)))) (B0 (congrArg (fun k_ : Nat => (⟨[(0, (Fu a_pred)), (5, (.vpt 5 64 0 0)), (9, (.vpt 9 64 0 0)), (10, (.vsl 15 k_))], [(5, .arr 1 53 64 (G3 a_reached)), (9, .arr 1 53 64 (Q199 a_head x4)), (15, .arr 1 3 k_ (fun i => Ac (((J2 x4) ++ (Tx a_pred x4)).getD i (0 : Int))))], []⟩ : St)) (show ((J2 x4).length + (Tx a_pred x4).length) = ((J2 x4) ++ (Tx a_pred x4)).length from (D7 _ _))))) (Le.refl _ _)⟩
        · replace h := Ay hb h; clear hb; refine Ai ?_; obtain rfl := OI h; exact ⟨rfl, F2 [0, 5, 9, 10] [5, 9, 15] hq⟩
      · clear hx15; rcases x15 with ⟨l8, l9⟩; rintro e st' ⟨rfl, hl16⟩; refine Aa ?_; refine Af hl16 ?_; refine Hp ?_; obtain rfl := OI h; exact ⟨rfl, rfl, Le.refl _ _⟩
  · clear h hx29; rintro ⟨l1, l2⟩ y rest hf h; obtain rfl := OI hf; clear hf; unfold Dj at h; refine Ae ?_; refine Ai ?_; refine Aa ?_; refine Ae ?_; refine Au ⟨[(0, (Fu a_pred)), (5, (.vpt 5 64 0 0)), (9, (.vpt 9 64 0 0)), (10, (.vsl 15 l2.length)), (18, (.bool (((l2.length : Int) : Int) == (0 : Int))))], (Q194 a_reached l1 l2), []⟩ hq ?_; refine Ak (((l2.length : Int) : Int) == (0 : Int)) (by kernel_rfl) (fun hb => ?_) (fun hb => ?_)
    · replace h := Aq hb h; clear hb; obtain ⟨x17, hx17, h⟩ := bind_some h; refine B6 [⟨[], [(20000, 20)], (AV.list 1 Ac (0 : Int) x17 (.own 20000)), [(20000, .tok 1 3 x17.length)], []⟩] [] ⟨[(8, (AV.list 1 Ac (0 : Int) x17 (.own 20)))], [(20, .tok 1 3 x17.length)], []⟩ [(64 = 64), (Spec Try.prog 46 [(.agg (Fn l1))] [] (AV.list 1 Ac (0 : Int) x17 (.own 20000)) [(20000, .tok 1 3 x17.length)])] hq ⟨rfl, (Hn l1 x17 hx17), trivial⟩ ?_; refine Ar ?_; refine A3 ?_; obtain rfl := OI h; exact ⟨(by intro l hh; cases hh), rfl, ⟨.inl rfl, [(20, 20000)], by kernel_rfl⟩⟩
    · replace h := Ay hb h; clear hb; refine Ai ?_; refine Aa ?_; obtain ⟨hc18, h⟩ := Ab h; refine B6 [] [] ⟨[(0, (Fu a_pred)), (5, (.vpt 5 64 0 0)), (9, (.vpt 9 64 0 0)), (10, (.vsl 15 l2.length)), (11, (.int .i64 (K8 l2)))], (Q194 a_reached l1 l2), []⟩ [(A8 (A0 ((l2.length : Int) - (1 : Int))) l2.length), (l2.length = l2.length)] hq ⟨hc18, rfl, trivial⟩ ?_; obtain ⟨hc19, h⟩ := Ab h; refine B6 [] [] ⟨[(0, (Fu a_pred)), (5, (.vpt 5 64 0 0)), (9, (.vpt 9 64 0 0)), (10, (.vsub 15 l2.length 0 (Aae l2))), (11, (.int .i64 (K8 l2)))], (Q194 a_reached l1 l2), []⟩ [(0 ≤ (A0 ((l2.length : Int) - (1 : Int))) ∧ 0 + ((A0 ((l2.length : Int) - (1 : Int)))).toNat ≤ l2.length)] hq ⟨hc19, trivial⟩ ?_; refine Af (Le.trans (Le.trans (Og (t := 10) (r := 15) (k := (Aae l2)) rfl rfl hc19.2 (by kernel_rfl) (.arr (fun _ => by kernel_rfl) (.arr (fun _ => by kernel_rfl) (.arr (fun _ => by kernel_rfl) .nil))) (by rw [hΓ]; rfl)) (B0 (st' := ⟨[(0, (Fu a_pred)), (5, (.vpt 5 64 0 0)), (9, (.vpt 9 64 0 0)), (10, (.vsl 15 (Aae l2))), (11, (.int .i64 (K8 l2)))], [(5, .arr 1 53 64 (G3 a_reached)), (9, .arr 1 53 64 (Q191 l1)), (15, .arr 1 3 (Aae l2) (fun i => Ac (l2.getD i (0 : Int))))], []⟩) (by kernel_rfl))) (Le.trans (Cd (st' := ⟨[(0, (Fu a_pred)), (5, (.vpt 5 64 0 0)), (9, (.vpt 9 64 0 0)), (10, (.vsl 15 (Aae l2))), (11, (.int .i64 (K8 l2)))], [(5, .arr 1 53 64 (G3 a_reached)), (9, .arr 1 53 64 (Q191 l1)), (15, .arr 1 3 (Aae l2) (Q201 l2))], []⟩) (TmpsLe.refl _) (.same (.same (.arr (Qj (e := Ac) (d := (0 : Int))) .nil)))) (B0 (congrArg (fun k_ : Nat => (⟨[(0, (Fu a_pred)), (5, (.vpt 5 64 0 0)), (9, (.vpt 9 64 0 0)), (10, (.vsl 15 k_)), (11, (.int .i64 (K8 l2)))], [(5, .arr 1 53 64 (G3 a_reached)), (9, .arr 1 53 64 (Q191 l1)), (15, .arr 1 3 k_ (Q201 l2))], []⟩ : St)) (show (Aae l2) = (Jq l2).length from Ok hc19.2))))) ?_; refine Ae ?_; obtain ⟨x27, hx27, h⟩ := bind_some h; refine Ez (fun ((l20, l21) : (List (Bool) × List (Int))) (e : Exit) (st : St) => e = .normal ∧ Le Γ st (⟨[(0, (Fu a_pred)), (5, (.vpt 5 64 0 0)), (9, (.vpt 9 64 0 0)), (10, (.vsl 15 l21.length))], [(5, .arr 1 53 64 (G3 a_reached)), (9, .arr 1 53 64 (fun i => eB (l20.getD i false))), (15, .arr 1 3 l21.length (fun i => Ac (l21.getD i (0 : Int))))], []⟩ : St)) hx27 ?_ ?_
      · clear h hx27; intro y h; obtain ⟨hc22, h⟩ := Ab h; obtain ⟨hc23, h⟩ := Ab h; refine B6 [] [] ⟨[(0, (Fu a_pred)), (5, (.vpt 5 64 0 0)), (9, (.vpt 9 64 0 0)), (10, (.vsl 15 (Jq l2).length)), (11, (.int .i64 (K8 l2))), (40, (.bool (bif (P7 a_reached l2) then (!(l1.getD ((K8 l2)).toNat false)) else false)))], [(5, .arr 1 53 64 (G3 a_reached)), (9, .arr 1 53 64 (Q191 l1)), (15, .arr 1 3 ((Jq l2).length) (Q201 l2))], []⟩ [(A8 (K8 l2) 64), (64 = 64), (((P7 a_reached l2) == true) = true → ((P7 a_reached l2) == true) = true), (((P7 a_reached l2) == true) = true → (A8 (K8 l2) 64)), (((P7 a_reached l2) == true) = true → ((P7 a_reached l2) == true) = true), (((P7 a_reached l2) == true) = true → (64 = 64)), (((P7 a_reached l2) == true) = true → ((P7 a_reached l2) == true) = true), ((P7 a_reached l2) = true → ((P7 a_reached l2) == true) = true)] hq ⟨hc22, rfl, (fun hg => hg), (fun hg => (hc23 hg)), (fun hg => hg), (fun hg => rfl), (fun hg => hg), gT, trivial⟩ ?_; refine Ak (bif (P7 a_reached l2) then (!(l1.getD ((K8 l2)).toNat false)) else false) (by kernel_rfl) (fun hb => ?_) (fun hb => ?_)
        · replace h := Aq hb h; clear hb; obtain ⟨hc24, h⟩ := Ab h; refine B6 [] [] ⟨[(0, (Fu a_pred)), (5, (.vpt 5 64 0 0)), (9, (.vpt 9 64 0 0)), (10, (.vsl 15 (Jq l2).length)), (11, (.int .i64 (K8 l2)))], [(5, .arr 1 53 64 (G3 a_reached)), (9, .arr 1 53 64 (fun i_ => AV.eraseAll Xb ((E6 (Q191 l1) ((K8 l2)).toNat 0 [(.bool true)]) i_))), (15, .arr 1 3 ((Jq l2).length) (Q201 l2))], []⟩ [(A8 (K8 l2) 64), (64 = 64)] hq ⟨hc24, rfl, trivial⟩ ?_; refine Af (Cd (st' := ⟨[(0, (Fu a_pred)), (5, (.vpt 5 64 0 0)), (9, (.vpt 9 64 0 0)), (10, (.vsl 15 (Jq l2).length)), (11, (.int .i64 (K8 l2)))], [(5, .arr 1 53 64 (G3 a_reached)), (9, .arr 1 53 64 (Q200 l1 l2)), (15, .arr 1 3 ((Jq l2).length) (Q201 l2))], []⟩) (TmpsLe.refl _) (.same (.arr (Bc rfl (fun k_ hk_ => (congrArg (AV.eraseAll Xb) ((Fc (fun _ _ => rfl) (Dy hc24) rfl) k_ hk_)).trans rfl)) (.same .nil)))) ?_; obtain ⟨hc25, h⟩ := Ab h; obtain ⟨hc26, h⟩ := Ab h; refine rg [] [] ⟨[(0, (Fu a_pred)), (5, (.vpt 5 64 0 0)), (9, (.vpt 9 64 0 0)), (10, (.vsl 15 ((Jq l2).length + (Th a_pred l2).length)))], [(5, .arr 1 53 64 (G3 a_reached)), (9, .arr 1 53 64 (Q200 l1 l2)), (15, .arr 1 3 ((Jq l2).length + (Th a_pred l2).length) (fun i_ => AV.eraseAll Xb ((E1 ((Jq l2).length) (Q201 l2) (fun i => Ac ((Th a_pred l2).getD i (0 : Int)))) i_)))], []⟩ [(A8 (K8 l2) a_pred.length), ((Jq l2).length = (Jq l2).length), ((Jq l2).length + (Th a_pred l2).length ≤ room)] hq ⟨hc25, rfl, hc26, trivial⟩ ?_; obtain rfl := OI h; exact ⟨rfl, Le.trans (Le.trans (Cd (st' := ⟨[(0, (Fu a_pred)), (5, (.vpt 5 64 0 0)), (9, (.vpt 9 64 0 0)), (10, (.vsl 15 ((Jq l2).length + (Th a_pred l2).length)))], [(5, .arr 1 53 64 (G3 a_reached)), (9, .arr 1 53 64 (Q200 l1 l2)), (15, .arr 1 3 ((Jq l2).length + (Th a_pred l2).length) (fun i => Ac (((Jq l2) ++ (Th a_pred l2)).getD i (0 : Int))))], []⟩) (TmpsLe.refl _) (.same (.same (.arr (Bc (D7 _ _) (fun k_ hk_ => (congrArg (AV.eraseAll Xb) ((Jt (fun _ _ => rfl) (fun _ _ => rfl)) k_ hk_)).trans rfl)) .nil)))) (B0 (congrArg (fun k_ : Nat => (⟨[(0, (Fu a_pred)), (5, (.vpt 5 64 0 0)), (9, (.vpt 9 64 0 0)), (10, (.vsl 15 k_))], [(5, .arr 1 53 64 (G3 a_reached)), (9, .arr 1 53 64 (Q200 l1 l2)), (15, .arr 1 3 k_ (fun i => Ac (((Jq l2) ++ (Th a_pred l2)).getD i (0 : Int))))], []⟩ : St)) (show ((Jq l2).length + (Th a_pred l2).length) = ((Jq l2) ++ (Th a_pred l2)).length from (D7 _ _))))) (Le.refl _ _)⟩
        · replace h := Ay hb h; clear hb; refine Ai ?_; obtain rfl := OI h; exact ⟨rfl, F2 [0, 5, 9, 10] [5, 9, 15] hq⟩
      · clear hx27; rcases x27 with ⟨l20, l21⟩; rintro e st' ⟨rfl, hl28⟩; refine Aa ?_; refine Af hl28 ?_; refine Hp ?_; obtain rfl := OI h; exact ⟨rfl, rfl, Le.refl _ _⟩
  · clear hx29; rintro e st' ⟨rfl, hk⟩; obtain rfl := OI h; exact hk
def Ea (x1 : List ((Int × Int))) : (Int × List (List (Int))) → Option (LR (Int × List (List (Int))) (List (List (Int)))) :=
  fun ((i2, l3) : (Int × List (List (Int)))) => (bif (decide ((i2 : Int) < (x1.length : Int))) then (Cl (A8 i2 x1.length) (Cl (A8 (x1.getD (i2).toNat ((0 : Int), (0 : Int))).2 64) (Cl (A8 (x1.getD (i2).toNat ((0 : Int), (0 : Int))).2 64) (Cl (((E8 64 [] l3).getD ((x1.getD (i2).toNat ((0 : Int), (0 : Int))).2).toNat []).length + ([(x1.getD (i2).toNat ((0 : Int), (0 : Int))).1] : List (Int)).length ≤ room) (Cl (A8 (x1.getD (i2).toNat ((0 : Int), (0 : Int))).2 64) (some (.next ((A0 (i2 + (1 : Int))), ((E8 64 [] l3).set ((x1.getD (i2).toNat ((0 : Int), (0 : Int))).2).toNat (((E8 64 [] l3).getD ((x1.getD (i2).toNat ((0 : Int), (0 : Int))).2).toNat []) ++ ([(x1.getD (i2).toNat ((0 : Int), (0 : Int))).1] : List (Int)))))))))))) else (some (.done l3)))
def Ce (a_g : Ao) (l4 : List (List (Int))) (x13 : List (Bool)) : (List (A2) × Int) → Option (LR (List (A2) × Int) (List (A2))) :=
  fun ((l14, i15) : (List (A2) × Int)) => (bif (decide ((i15 : Int) < (64 : Int))) then (Option.bind (α := List (A2)) (Cl (A8 i15 64) (bif (decide (((0 : Int) : Int) < ((l4.getD (i15).toNat []).length : Int))) then ((Hs a_g.Pred x13 i15 (l4.getD (i15).toNat [])).bind fun x19 => (Cl (l14.length + ([(⟨i15, x19⟩ : A2)] : List (A2)).length ≤ room) (some ((l14 ++ ([(⟨i15, x19⟩ : A2)] : List (A2))))))) else (some (l14)))) (fun x21 => ((some (.next (x21, (A0 (i15 + (1 : Int))))))))) else (some (.done l14)))
def Mt := (default : A2)
def P6 (x10 : List (List (Int))) : AV := (.agg (Yd x10))
def U2 (x13 : List (Bool)) := (fun i => eB (x13.getD i false))
def Qa (i15 : Int) (x19 : List (Int)) := ([(⟨i15, x19⟩ : A2)] : List (A2))
def Hk (x1 : List ((Int × Int))) (i2 : Int) := (x1.getD (i2).toNat ((0 : Int), (0 : Int)))
def Rm (l3 : List (List (Int))) (x1 : List ((Int × Int))) (i2 : Int) := ((E8 64 [] l3).getD ((Hk x1 i2).2).toNat [])
def Q211 := (E8 64 [] (List.replicate 64 ([] : List (Int))))
def Q214 (l14 : List (A2)) : AV := (AV.list 2 Dt Mt l14 (.own 5009))
def Q219 (x1 : List ((Int × Int))) : AV := (AV.list 2 Cp ((0 : Int), (0 : Int)) x1 (.own 13))
def Q213 (l3 : List (List (Int))) := (Ct 1 Ac (0 : Int) (E8 64 [] l3) (Tag.fam 70003))
def Q215 (x10 : List (List (Int))) := (Ct 1 Ac (0 : Int) (E8 64 [] x10) (Tag.fam 70003))
def Q212 (x10 : List (List (Int))) (i15 : Int) : AV := (AV.list 1 Ac (0 : Int) (x10.getD (i15).toNat []) .none)
def Z7 (l3 : List (List (Int))) (x1 : List ((Int × Int))) (i2 : Int) := ((Rm l3 x1 i2) ++ ([(Hk x1 i2).1] : List (Int)))
def Q223 (l3 : List (List (Int))) (x1 : List ((Int × Int))) (i2 : Int) := ((E8 64 [] l3).set ((Hk x1 i2).2).toNat (Z7 l3 x1 i2))
def Q210 : AV := (AV.list 2 Dt Mt ([] : List A2) .exact)
def Iu (a_g : Ao) : List AV := [(AV.list 1 At [] a_g.Succ .none), (AV.list 1 At [] a_g.Pred .none)]
def Q220 (a_g : Ao) (l3 : List (List (Int))) (x1 : List ((Int × Int))) : List (Nat × Own) := [(1, .row 26 (Iu a_g)), (3, .arr 1 51 64 (Q213 l3)), (13, .tok 2 45 x1.length)]
def Q218 (a_g : Ao) (x13 : List (Bool)) (l14 : List (A2)) : List (Nat × Own) := [(1, .row 26 (Iu a_g)), (8, .arr 1 53 64 (U2 x13)), (5009, .tok 2 38 l14.length)]
def Q207 (x1 : List ((Int × Int))) (i2 : Int) : List (Nat × AV) := [(1, (.ptr 1 0)), (3, (.vpt 3 64 0 0)), (13, (Q219 x1)), (14, (.int .i64 (x1.length : Int))), (15, (.int .i64 i2))]
def Q224 (x1 : List ((Int × Int))) (i2 : Int) : List (Nat × AV) := [(1, (.ptr 1 0)), (3, (.vpt 3 64 0 0)), (6, (.int .i64 (Hk x1 i2).1)), (7, (.int .i64 (Hk x1 i2).2)), (13, (Q219 x1)), (14, (.int .i64 (x1.length : Int))), (15, (.int .i64 i2))]
def Fm (a_g : Ao) : Option (List (A2)) :=
  ((D9 a_g).bind fun x1 => ((Aw (S := (Int × List (List (Int)))) (X := List (List (Int))) (Ea x1) ((0 : Int), (List.replicate 64 ([] : List (Int))))).bind (fun x10 => (((C9 a_g (0 : Int)).bind fun x12 => ((Fd x12).bind fun x13 => ((Aw (S := (List (A2) × Int)) (X := List (A2)) (Ce a_g x10 x13) (([] : List A2), (0 : Int))).bind (fun x23 => ((some x23))))))))))
theorem Lb (a_g : Ao) (r : List (A2)) (h : Fm a_g = some r) : Spec Try.prog 12 [(.agg (B2 a_g))] [] (AV.list 2 Dt (default : A2) r (.own 20000)) [(20000, .tok 2 38 r.length)] := by
  refine An (fn := Try.f12) Try.func12 rfl rfl (by kernel_rfl) (fun Γ hn hΓ => ?_); have hq : RgQ Try.prog Γ 56 [] := ⟨hn, mix, hΓ⟩; unfold Fm at h; refine B6 [] [(2, Q210)] ⟨[(1, (.ptr 1 0))], [(1, .row 26 (Iu a_g))], []⟩ [(AVle (.slice 0 0 (fun _ => []) .exact) Q210)] hq ⟨D2, trivial⟩ ?_; refine B6 [] [(3, (.vpt 3 64 0 0))] ⟨[(1, (.ptr 1 0)), (3, (.vpt 3 64 0 0))], [(1, .row 26 (Iu a_g)), (3, .arr 1 51 64 (fun i_ => AV.eraseAll (fun n_ => B3 n_ [1, 3]) ((fun i => (((List.replicate 64 [(.slice 0 0 (fun _ => []) .exact)]).flatten).drop (i * 1)).take 1) i_)))], []⟩ [] hq trivial ?_; refine Af (Le.trans (Cd (st' := ⟨[(1, (.ptr 1 0)), (3, (.vpt 3 64 0 0))], [(1, .row 26 (Iu a_g)), (3, .arr 1 51 64 (Ct 1 Ac (0 : Int) Q211 (fun _ => .exact)))], []⟩) (TmpsLe.refl _) (.same (.arr U7 .nil))) (Le.trans (Rs (r := 3) (b := 70003) Ac (0 : Int) Q211 3 rfl rfl padN_len.symm (fun h_ => absurd h_ (by decide))) (B0 (st' := ⟨[(1, (.ptr 1 0)), (3, (.vpt 3 64 0 0))], [(1, .row 26 (Iu a_g)), (3, .arr 1 51 64 (Ct 1 Ac (0 : Int) Q211 (Tag.fam 70003)))], [(70003, ⟨1, 3, Cw Q211⟩)]⟩) (by kernel_rfl)))) ?_; refine Ae ?_; obtain ⟨x1, hx1, h⟩ := bind_some h; refine B6 [⟨[], [(20000, 13)], (AV.list 2 Cp ((0 : Int), (0 : Int)) x1 (.own 20000)), [(20000, .tok 2 45 x1.length)], []⟩] [] ⟨[(1, (.ptr 1 0)), (3, (.vpt 3 64 0 0)), (13, (Q219 x1)), (14, (.int .i64 (x1.length : Int))), (15, (.int .i64 (0 : Int)))], [(1, .row 26 (Iu a_g)), (3, .arr 1 51 64 (Ct 1 Ac (0 : Int) Q211 (Tag.fam 70003))), (13, .tok 2 45 x1.length)], [(70003, ⟨1, 3, Cw Q211⟩)]⟩ [(Spec Try.prog 18 [(.agg (B2 a_g))] [] (AV.list 2 Cp ((0 : Int), (0 : Int)) x1 (.own 20000)) [(20000, .tok 2 45 x1.length)])] hq ⟨(Jf a_g x1 hx1), trivial⟩ ?_; refine Aj ?_; refine Af (st' := (fun ((i2, l3) : (Int × List (List (Int)))) => (⟨(Q207 x1 i2), (Q220 a_g l3 x1), [(70003, ⟨1, 3, Cw (E8 64 [] l3)⟩)]⟩ : St)) ((0 : Int), (List.replicate 64 ([] : List (Int))))) (Le.refl _ _) ?_; obtain ⟨x10, hx10, h⟩ := bind_some h; refine Bh (fun ((i2, l3) : (Int × List (List (Int)))) => (⟨(Q207 x1 i2), (Q220 a_g l3 x1), [(70003, ⟨1, 3, Cw (E8 64 [] l3)⟩)]⟩ : St)) _ (fun (l4 : List (List (Int))) (e : Exit) (st : St) => e = (.exit 0) ∧ Le Γ st (⟨[(1, (.ptr 1 0)), (3, (.vpt 3 64 0 0))], [(1, .row 26 (Iu a_g)), (3, .arr 1 51 64 (Ct 1 Ac (0 : Int) (E8 64 [] l4) (Tag.fam 70003)))], [(70003, ⟨1, 3, Cw (E8 64 [] l4)⟩)]⟩ : St)) ?_ hx10 ?_
  · rintro ⟨i2, l3⟩ y h; unfold Ea at h; refine Au ⟨[(1, (.ptr 1 0)), (3, (.vpt 3 64 0 0)), (13, (Q219 x1)), (14, (.int .i64 (x1.length : Int))), (15, (.int .i64 i2)), (16, (.bool (decide ((i2 : Int) < (x1.length : Int)))))], (Q220 a_g l3 x1), [(70003, ⟨1, 3, Cw (E8 64 [] l3)⟩)]⟩ hq ?_; refine Ae ?_; refine Ak (decide ((i2 : Int) < (x1.length : Int))) (by kernel_rfl) (fun hb => ?_) (fun hb => ?_)
    · replace h := Aq hb h; clear hb; refine Ai ?_; refine Aa ?_; refine Ae ?_; refine Aj ?_; obtain ⟨hc5, h⟩ := Ab h; refine B6 [] [] ⟨[(1, (.ptr 1 0)), (3, (.vpt 3 64 0 0)), (5, (.ptr 5 0)), (13, (Q219 x1)), (14, (.int .i64 (x1.length : Int))), (15, (.int .i64 i2))], [(1, .row 26 (Iu a_g)), (3, .arr 1 51 64 (Q213 l3)), (5, .row 45 [(.int .i64 (Hk x1 i2).1), (.int .i64 (Hk x1 i2).2)]), (13, .tok 2 45 x1.length)], [(70003, ⟨1, 3, Cw (E8 64 [] l3)⟩)]⟩ [(A8 i2 x1.length)] hq ⟨hc5, trivial⟩ ?_; refine B6 [] [] ⟨(Q224 x1 i2), (Q220 a_g l3 x1), [(70003, ⟨1, 3, Cw (E8 64 [] l3)⟩)]⟩ [(A8 (0 : Int) 2), (A8 (1 : Int) 2)] hq ⟨(by decide), (by decide), trivial⟩ ?_; obtain ⟨hc6, h⟩ := Ab h; obtain ⟨hc7, h⟩ := Ab h; obtain ⟨hc8, h⟩ := Ab h; obtain ⟨hc9, h⟩ := Ab h; refine Af (Le.trans (V1 (r := 3) (b := 70003) (k := 60003) Ac (0 : Int) (E8 64 [] l3) ((Hk x1 i2).2).toNat 3 rfl rfl rfl padN_len.symm (Vk (Dy hc6)) (by kernel_rfl) (.row (by kernel_rfl) (.here (.tok .nil)))) (B0 (st' := ⟨(Q224 x1 i2), [(1, .row 26 (Iu a_g)), (3, .arr 1 51 64 (Ct 1 Ac (0 : Int) (E8 64 [] l3) (Dd 70003 ((Hk x1 i2).2).toNat 60003))), (13, .tok 2 45 x1.length), (60003, .tok 1 3 ((Rm l3 x1 i2).length))], [(70003, ⟨1, 3, Jp (E8 64 [] l3) ((Hk x1 i2).2).toNat⟩)]⟩) (by kernel_rfl))) ?_; refine rg [] [(26, (AV.list 1 Ac (0 : Int) (Rm l3 x1 i2) (.own 60003))), (28, (AV.list 1 Ac (0 : Int) ([(Hk x1 i2).1] : List (Int)) .exact)), (29, (AV.list 1 Ac (0 : Int) (Z7 l3 x1 i2) (.own 60003)))] ⟨(Q207 x1 i2), [(1, .row 26 (Iu a_g)), (3, .arr 1 51 64 (fun i_ => AV.eraseAll (fun n_ => B3 n_ [1, 3, 13, 60003, 70003]) ((E6 (Ct 1 Ac (0 : Int) (E8 64 [] l3) (Dd 70003 ((Hk x1 i2).2).toNat 60003)) ((Hk x1 i2).2).toNat 0 [(AV.list 1 Ac (0 : Int) (Z7 l3 x1 i2) (.own 60003))]) i_))), (13, .tok 2 45 x1.length), (60003, .tok 1 3 ((Z7 l3 x1 i2).length))], [(70003, ⟨1, 3, Jp (E8 64 [] l3) ((Hk x1 i2).2).toNat⟩)]⟩ [(A8 (Hk x1 i2).2 64), (64 = 64), (AVle (((Ct 1 Ac (0 : Int) (E8 64 [] l3) (Dd 70003 ((Hk x1 i2).2).toNat 60003)) ((Hk x1 i2).2).toNat).getD 0 .any) (AV.list 1 Ac (0 : Int) (Rm l3 x1 i2) (.own 60003))), (AVle (.slice 1 1 (fun i => ([[(.int .i64 (Hk x1 i2).1)]] : List (List AV)).getD i []) .exact) (AV.list 1 Ac (0 : Int) ([(Hk x1 i2).1] : List (Int)) .exact)), ((Rm l3 x1 i2).length = (Rm l3 x1 i2).length), ((Rm l3 x1 i2).length + ([(Hk x1 i2).1] : List (Int)).length ≤ room), (AVle (.slice 1 ((Rm l3 x1 i2).length + ([(Hk x1 i2).1] : List (Int)).length) (E1 (Rm l3 x1 i2).length (fun i => Ac ((Rm l3 x1 i2).getD i (0 : Int))) (fun i => Ac (([(Hk x1 i2).1] : List (Int)).getD i (0 : Int)))) (.own 60003)) (AV.list 1 Ac (0 : Int) (Z7 l3 x1 i2) (.own 60003))), ((Rm l3 x1 i2).length + ([(Hk x1 i2).1] : List (Int)).length = (Z7 l3 x1 i2).length), (A8 (Hk x1 i2).2 64), (64 = 64)] hq ⟨hc7, rfl, Pc, (E5 rfl (fun i hi => En (e := Ac) (d := (0 : Int)) ([(Hk x1 i2).1] : List (Int)) i hi)), rfl, hc8, Nf, (D7 _ _), hc9, rfl, trivial⟩ ?_; refine Am ?_; refine Aa ?_; refine Af (Le.trans (Le.trans (Z4 (r := 3) (b := 70003) (k := 60003) Ac (0 : Int) (E8 64 [] l3) ((Hk x1 i2).2).toNat (Z7 l3 x1 i2) 3 rfl (R4 (Vk (Dy hc6)) rfl rfl) rfl rfl rfl padN_len.symm (Vk (Dy hc6)) (by kernel_rfl) (.row (by kernel_rfl) (.here (.tok (.tok .nil)))) (by rw [hΓ]; rfl)) (B0 (st' := ⟨(Q207 x1 i2), [(1, .row 26 (Iu a_g)), (3, .arr 1 51 64 (Ct 1 Ac (0 : Int) (Q223 l3 x1 i2) (Tag.fam 70003))), (13, .tok 2 45 x1.length)], [(70003, ⟨1, 3, Cw (Q223 l3 x1 i2)⟩)]⟩) (by kernel_rfl))) (B0 (congrArg (fun k_ : List (List (Int)) => (⟨(Q207 x1 i2), [(1, .row 26 (Iu a_g)), (3, .arr 1 51 64 (Ct 1 Ac (0 : Int) k_ (Tag.fam 70003))), (13, .tok 2 45 x1.length)], [(70003, ⟨1, 3, Cw k_⟩)]⟩ : St)) (show (Q223 l3 x1 i2) = (E8 64 [] (Q223 l3 x1 i2)) from Ub ((List.length_set ..).trans padN_len))))) ?_; refine Mq ⟨[(1, (.ptr 1 0)), (3, (.vpt 3 64 0 0)), (13, (Q219 x1)), (14, (.int .i64 (x1.length : Int))), (15, (.int .i64 (A0 (i2 + (1 : Int)))))], [(1, .row 26 (Iu a_g)), (3, .arr 1 51 64 (Ct 1 Ac (0 : Int) (E8 64 [] (Q223 l3 x1 i2)) (Tag.fam 70003))), (13, .tok 2 45 x1.length)], [(70003, ⟨1, 3, Cw (E8 64 [] (Q223 l3 x1 i2))⟩)]⟩ hq ?_; obtain rfl := OI h; exact ⟨rfl, Le.refl _ _⟩
    · replace h := Ay hb h; clear hb; refine Bi ?_; refine A6 ?_; obtain rfl := OI h; exact ⟨(by intro hh; cases hh), rfl, F2 [1, 3] [1, 3, 70003] hq⟩
  · clear hx10; rintro e st' ⟨rfl, hl11⟩; refine A1 ?_; refine Aa ?_; refine Af hl11 ?_; obtain ⟨x12, hx12, h⟩ := bind_some h; obtain ⟨x13, hx13, h⟩ := bind_some h; refine B6 [⟨[], [(20000, 33)], (AV.list 1 Ac (0 : Int) x12 (.own 20000)), [(20000, .tok 1 3 x12.length)], []⟩, ⟨[], [], (.agg (Fn x13)), [], []⟩] [(8, (.vpt 8 64 0 0))] ⟨[(1, (.ptr 1 0)), (3, (.vpt 3 64 0 0)), (8, (.vpt 8 64 0 0))], [(1, .row 26 (Iu a_g)), (3, .arr 1 51 64 (Q215 x10)), (8, .arr 1 53 64 (fun i_ => AV.eraseAll (fun n_ => B3 n_ [1, 3, 8, 70003]) ((fun i_ => (((Fn x13)).drop (i_ * 1)).take 1) i_)))], [(70003, ⟨1, 3, Cw (E8 64 [] x10)⟩)]⟩ [(Spec Try.prog 20 [(.agg (B2 a_g)), (.int .i64 (0 : Int))] [] (AV.list 1 Ac (0 : Int) x12 (.own 20000)) [(20000, .tok 1 3 x12.length)]), (Spec Try.prog 30 [(AV.list 1 Ac (0 : Int) x12 .none)] [] (.agg (Fn x13)) []), (64 = 64)] hq ⟨(Ii a_g (0 : Int) x12 hx12), (Ra x12 x13 hx13), rfl, trivial⟩ ?_; refine Af (Cd (st' := ⟨[(1, (.ptr 1 0)), (3, (.vpt 3 64 0 0)), (8, (.vpt 8 64 0 0))], [(1, .row 26 (Iu a_g)), (3, .arr 1 51 64 (Q215 x10)), (8, .arr 1 53 64 (U2 x13))], [(70003, ⟨1, 3, Cw (E8 64 [] x10)⟩)]⟩) (TmpsLe.refl _) (.same (.same (.arr (Bc rfl (fun k_ hk_ => (congrArg (AV.eraseAll (fun n_ => B3 n_ [1, 3, 8, 70003])) ((Kn (n := 64) (sz := 1) (f := (U2 x13)) (fun _ _ => rfl)) k_ hk_)).trans rfl)) .nil)))) ?_; refine B6 [] [(9, Q210)] ⟨[(1, (.ptr 1 0)), (3, (.vpt 3 64 0 0)), (8, (.vpt 8 64 0 0)), (9, Q210)], [(1, .row 26 (Iu a_g)), (3, .arr 1 51 64 (Q215 x10)), (8, .arr 1 53 64 (U2 x13))], [(70003, ⟨1, 3, Cw (E8 64 [] x10)⟩)]⟩ [(AVle (.slice 0 0 (fun _ => []) .exact) Q210)] hq ⟨D2, trivial⟩ ?_; refine Ae ?_; refine B6 [] [(35, (P6 x10))] ⟨[(1, (.ptr 1 0)), (8, (.vpt 8 64 0 0)), (9, Q210), (35, (P6 x10)), (36, (.int .i64 (0 : Int)))], [(1, .row 26 (Iu a_g)), (8, .arr 1 53 64 (U2 x13))], []⟩ [(64 = 64), (AVle (.agg (Gw 64 (Q215 x10))) (P6 x10))] hq ⟨rfl, (Vg rfl), trivial⟩ ?_; refine Aj ?_; refine Af (st' := (fun ((l14, i15) : (List (A2) × Int)) => (⟨[(1, (.ptr 1 0)), (8, (.vpt 8 64 0 0)), (9, (Q214 l14)), (35, (P6 x10)), (36, (.int .i64 i15))], (Q218 a_g x13 l14), []⟩ : St)) (([] : List A2), (0 : Int))) (Le.trans (O1 (t := 9) (nm := 5009) (sz' := 2) (fun i => Dt (([] : List A2).getD i Mt)) 38 rfl rfl (.inl ⟨rfl, rfl⟩) (fun h_ => absurd h_ (by decide))) (F2 (st' := ⟨[(1, (.ptr 1 0)), (8, (.vpt 8 64 0 0)), (9, (AV.list 2 Dt Mt ([] : List A2) (.own 5009))), (35, (P6 x10)), (36, (.int .i64 (0 : Int)))], [(1, .row 26 (Iu a_g)), (8, .arr 1 53 64 (U2 x13)), (5009, .tok 2 38 (([] : List A2).length))], []⟩) [1, 8, 9, 35, 36] [1, 8, 5009] hq)) ?_; obtain ⟨x23, hx23, h⟩ := bind_some h; refine Bh (fun ((l14, i15) : (List (A2) × Int)) => (⟨[(1, (.ptr 1 0)), (8, (.vpt 8 64 0 0)), (9, (Q214 l14)), (35, (P6 x10)), (36, (.int .i64 i15))], (Q218 a_g x13 l14), []⟩ : St)) _ (fun (l16 : List (A2)) (e : Exit) (st : St) => e = (.exit 2) ∧ Le Γ st (⟨[(9, (AV.list 2 Dt Mt l16 (.own 5009)))], [(5009, .tok 2 38 l16.length)], []⟩ : St)) ?_ hx23 ?_
    · rintro ⟨l14, i15⟩ y h; unfold Ce at h; refine Au ⟨[(1, (.ptr 1 0)), (8, (.vpt 8 64 0 0)), (9, (Q214 l14)), (35, (P6 x10)), (36, (.int .i64 i15)), (37, (.bool (decide ((i15 : Int) < (64 : Int)))))], (Q218 a_g x13 l14), []⟩ hq ?_; refine Ae ?_; refine Ak (decide ((i15 : Int) < (64 : Int))) (by kernel_rfl) (fun hb => ?_) (fun hb => ?_)
      · replace h := Aq hb h; clear hb; refine Ai ?_; refine Aa ?_; refine Ae ?_; obtain ⟨x21, hx21, h⟩ := bind_some h; refine Ez (fun (l17 : List (A2)) (e : Exit) (st : St) => e = .normal ∧ Le Γ st (⟨[(1, (.ptr 1 0)), (8, (.vpt 8 64 0 0)), (9, (AV.list 2 Dt Mt l17 (.own 5009))), (35, (P6 x10)), (36, (.int .i64 i15))], [(1, .row 26 (Iu a_g)), (8, .arr 1 53 64 (U2 x13)), (5009, .tok 2 38 l17.length)], []⟩ : St)) hx21 ?_ ?_
        · clear h hx21; intro y h; refine Aj ?_; obtain ⟨hc18, h⟩ := Ab h; refine B6 [] [(39, (Q212 x10 i15))] ⟨[(1, (.ptr 1 0)), (8, (.vpt 8 64 0 0)), (9, (Q214 l14)), (10, (.int .i64 i15)), (11, (Q212 x10 i15)), (35, (P6 x10)), (36, (.int .i64 i15))], (Q218 a_g x13 l14), []⟩ [(A8 i15 64), (AVle ((Yd x10).getD (i15).toNat .any) (Q212 x10 i15))] hq ⟨hc18, (flat_at (n := 64) (f := fun i => At (x10.getD i [])) rfl (fun _ _ => rfl) (Dy hc18) rfl), trivial⟩ ?_; refine Au ⟨[(1, (.ptr 1 0)), (8, (.vpt 8 64 0 0)), (9, (Q214 l14)), (10, (.int .i64 i15)), (11, (Q212 x10 i15)), (35, (P6 x10)), (36, (.int .i64 i15)), (42, (.bool (decide (((0 : Int) : Int) < ((x10.getD (i15).toNat []).length : Int)))))], (Q218 a_g x13 l14), []⟩ hq ?_; refine Ak (decide (((0 : Int) : Int) < ((x10.getD (i15).toNat []).length : Int))) (by kernel_rfl) (fun hb => ?_) (fun hb => ?_)
          · replace h := Aq hb h; clear hb; obtain ⟨x19, hx19, h⟩ := bind_some h; obtain ⟨hc20, h⟩ := Ab h; refine rg [⟨[], [(20000, 50)], (AV.list 1 Ac (0 : Int) x19 (.own 20000)), [(20000, .tok 1 3 x19.length)], []⟩] [(52, (AV.list 2 Dt Mt (Qa i15 x19) .exact)), (53, (AV.list 2 Dt Mt (l14 ++ (Qa i15 x19)) (.own 5009)))] ⟨[(1, (.ptr 1 0)), (8, (.vpt 8 64 0 0)), (9, (AV.list 2 Dt Mt (l14 ++ (Qa i15 x19)) (.own 5009))), (35, (P6 x10)), (36, (.int .i64 i15))], [(1, .row 26 (Iu a_g)), (8, .arr 1 53 64 (U2 x13)), (5009, .tok 2 38 ((l14 ++ (Qa i15 x19)).length))], []⟩ [(64 = 64), (Spec Try.prog 31 [(AV.list 1 At [] a_g.Pred .none), (.agg (Fn x13)), (.int .i64 i15), (Q212 x10 i15)] [] (AV.list 1 Ac (0 : Int) x19 (.own 20000)) [(20000, .tok 1 3 x19.length)]), (AVle (.slice 2 1 (fun i => ([[(.int .i64 i15), (AV.list 1 Ac (0 : Int) x19 .none)]] : List (List AV)).getD i []) .exact) (AV.list 2 Dt Mt (Qa i15 x19) .exact)), (l14.length = l14.length), (l14.length + (Qa i15 x19).length ≤ room), (AVle (.slice 2 (l14.length + (Qa i15 x19).length) (E1 l14.length (fun i => Dt (l14.getD i Mt)) (fun i => Dt ((Qa i15 x19).getD i Mt))) (.own 5009)) (AV.list 2 Dt Mt (l14 ++ (Qa i15 x19)) (.own 5009))), (l14.length + (Qa i15 x19).length = (l14 ++ (Qa i15 x19)).length)] hq ⟨rfl, (U9 a_g.Pred x13 i15 (x10.getD (i15).toNat []) x19 hx19), (E5 rfl (fun i hi => En (e := Dt) (d := Mt) (Qa i15 x19) i hi)), rfl, hc20, Nf, (D7 _ _), trivial⟩ ?_; refine Am ?_; obtain rfl := OI h; exact ⟨rfl, Le.refl _ _⟩
          · replace h := Ay hb h; clear hb; refine Ai ?_; refine Am ?_; obtain rfl := OI h; exact ⟨rfl, F2 [1, 8, 9, 35, 36] [1, 8, 5009] hq⟩
        · clear hx21; rintro e st' ⟨rfl, hl22⟩; refine Aa ?_; refine Af hl22 ?_; refine Mq ⟨[(1, (.ptr 1 0)), (8, (.vpt 8 64 0 0)), (9, (AV.list 2 Dt Mt x21 (.own 5009))), (35, (P6 x10)), (36, (.int .i64 (A0 (i15 + (1 : Int)))))], [(1, .row 26 (Iu a_g)), (8, .arr 1 53 64 (U2 x13)), (5009, .tok 2 38 x21.length)], []⟩ hq ?_; obtain rfl := OI h; exact ⟨rfl, Le.refl _ _⟩
      · replace h := Ay hb h; clear hb; refine Bi ?_; refine A6 ?_; obtain rfl := OI h; exact ⟨(by intro hh; cases hh), rfl, F2 [9] [5009] hq⟩
    · clear hx23; rintro e st' ⟨rfl, hl24⟩; refine A1 ?_; refine Aa ?_; refine Af hl24 ?_; refine Au ⟨[(2, (AV.list 2 Dt Mt x23 (.own 5009)))], [(5009, .tok 2 38 x23.length)], []⟩ hq ?_; refine Ar ?_; obtain rfl := OI h; exact ⟨.inl rfl, [(5009, 20000)], by kernel_rfl⟩
def Bj (a_a : List (Int)) (a_b : List (Int)) : Int → Option (LR Int (Unit ⊕ Bool)) :=
  fun (i1 : Int) => (bif (decide ((i1 : Int) < (a_a.length : Int))) then (Cl (A8 i1 a_a.length) (Cl (A8 i1 a_b.length) (bif (((a_a.getD (i1).toNat (0 : Int)) : Int) != (a_b.getD (i1).toNat (0 : Int))) then (some (.done (.inr false))) else (some (.next (A0 (i1 + (1 : Int)))))))) else (some (.done (.inl ()))))
def Wf (a_a : List (Int)) : AV := (AV.list 1 Ac (0 : Int) a_a .none)
def Xa (a_b : List (Int)) : AV := (AV.list 1 Ac (0 : Int) a_b .none)
def Cr (a_a : List (Int)) (a_b : List (Int)) : Option Bool :=
  (bif (((a_a.length : Int) : Int) != (a_b.length : Int)) then (some false) else ((Aw (S := Int) (X := (Unit ⊕ Bool)) (Bj a_a a_b) (0 : Int)).bind (fun x4 => (match x4 with | (.inl _) => (some true) | (.inr r6) => (some r6)))))
theorem K3 (a_a : List (Int)) (a_b : List (Int)) (r : Bool) (h : Cr a_a a_b = some r) : Spec Try.prog 21 [(AV.list 1 Ac (0 : Int) a_a .none), (AV.list 1 Ac (0 : Int) a_b .none)] [] (.bool r) [] := by
  refine An (fn := Try.f21) Try.func21 rfl rfl (by kernel_rfl) (fun Γ hn hΓ => ?_); have hq : RgQ Try.prog Γ 26 [] := ⟨hn, mix, hΓ⟩; unfold Cr at h; refine Au ⟨[(0, (Wf a_a)), (1, (Xa a_b))], [], []⟩ hq ?_; refine Ae ?_; refine Au ⟨[(0, (Wf a_a)), (1, (Xa a_b)), (10, (.bool (((a_a.length : Int) : Int) != (a_b.length : Int))))], [], []⟩ hq ?_; refine Ak (((a_a.length : Int) : Int) != (a_b.length : Int)) (by kernel_rfl) (fun hb => ?_) (fun hb => ?_)
  · replace h := Aq hb h; clear hb; refine Au ⟨[(4, (.bool false))], [], []⟩ hq ?_; refine Ar ?_; refine A3 ?_; obtain rfl := OI h; exact ⟨.inl rfl, [], by kernel_rfl⟩
  · replace h := Ay hb h; clear hb; refine Ai ?_; refine Aa ?_; refine Ae ?_; refine Au ⟨[(0, (Wf a_a)), (1, (Xa a_b)), (5, (.int .i64 (0 : Int)))], [], []⟩ hq ?_; refine Aj ?_; refine Af (st' := (fun (i1 : Int) => (⟨[(0, (Wf a_a)), (1, (Xa a_b)), (5, (.int .i64 i1))], [], []⟩ : St)) (0 : Int)) (Le.refl _ _) ?_; obtain ⟨x4, hx4, h⟩ := bind_some h; refine Bh (fun (i1 : Int) => (⟨[(0, (Wf a_a)), (1, (Xa a_b)), (5, (.int .i64 i1))], [], []⟩ : St)) _ (fun (x_ : (Unit ⊕ Bool)) (e : Exit) (st : St) => match x_ with | (.inl _) => e = (.exit 0) ∧ Le Γ st (⟨[], [], []⟩ : St) | (.inr r_) => e = .ret ∧ La Try.prog Try.f21.results.toList [] (.bool r_) [] e st) ?_ hx4 ?_
    · intro i1 y h; unfold Bj at h; refine Ae ?_; refine Au ⟨[(0, (Wf a_a)), (1, (Xa a_b)), (5, (.int .i64 i1)), (14, (.bool (decide ((i1 : Int) < (a_a.length : Int)))))], [], []⟩ hq ?_; refine Ak (decide ((i1 : Int) < (a_a.length : Int))) (by kernel_rfl) (fun hb => ?_) (fun hb => ?_)
      · replace h := Aq hb h; clear hb; refine Ai ?_; refine Aa ?_; refine Ae ?_; refine Aj ?_; obtain ⟨hc2, h⟩ := Ab h; obtain ⟨hc3, h⟩ := Ab h; refine B6 [] [] ⟨[(0, (Wf a_a)), (1, (Xa a_b)), (5, (.int .i64 i1)), (25, (.bool (((a_a.getD (i1).toNat (0 : Int)) : Int) != (a_b.getD (i1).toNat (0 : Int)))))], [], []⟩ [(A8 i1 a_a.length), (A8 i1 a_b.length)] hq ⟨hc2, hc3, trivial⟩ ?_; refine Ak (((a_a.getD (i1).toNat (0 : Int)) : Int) != (a_b.getD (i1).toNat (0 : Int))) (by kernel_rfl) (fun hb => ?_) (fun hb => ?_)
        · replace h := Aq hb h; clear hb; refine Au ⟨[(4, (.bool false))], [], []⟩ hq ?_; refine Ar ?_; refine Br ?_; refine A3 ?_; obtain rfl := OI h; exact ⟨(by intro hh; cases hh), rfl, ⟨.inl rfl, [], by kernel_rfl⟩⟩
        · replace h := Ay hb h; clear hb; refine Ai ?_; refine Am ?_; refine Aa ?_; refine Mq ⟨[(0, (Wf a_a)), (1, (Xa a_b)), (5, (.int .i64 (A0 (i1 + (1 : Int)))))], [], []⟩ hq ?_; obtain rfl := OI h; exact ⟨rfl, Le.refl _ _⟩
      · replace h := Ay hb h; clear hb; refine Bi ?_; refine A6 ?_; obtain rfl := OI h; exact ⟨(by intro hh; cases hh), rfl, F2 [] [] hq⟩
    · clear hx4; rcases x4 with _ | r6
      · rintro e st' ⟨rfl, hl5⟩; refine A1 ?_; refine Aa ?_; refine Af hl5 ?_; refine Au ⟨[(4, (.bool true))], [], []⟩ hq ?_; refine Ar ?_; obtain rfl := OI h; exact ⟨.inl rfl, [], by kernel_rfl⟩
      · rintro e st' ⟨rfl, hk⟩; refine Br ?_; refine A3 ?_; obtain rfl := OI h; exact hk
def Cx (a_s : List (Int)) (a_v : Int) : Option Bool :=
  ((Ck a_s a_v).bind fun x1 => (some (decide (((0 : Int) : Int) ≤ x1))))
theorem Il (a_s : List (Int)) (a_v : Int) (r : Bool) (h : Cx a_s a_v = some r) : Spec Try.prog 38 [(AV.list 1 Ac (0 : Int) a_s .none), (.int .i64 a_v)] [] (.bool r) [] := by
  refine An (fn := Try.f38) Try.func38 rfl rfl (by kernel_rfl) (fun Γ hn hΓ => ?_); have hq : RgQ Try.prog Γ 9 [] := ⟨hn, mix, hΓ⟩; unfold Cx at h; refine Au ⟨[(0, (AV.list 1 Ac (0 : Int) a_s .none)), (1, (.int .i64 a_v))], [], []⟩ hq ?_; obtain ⟨x1, hx1, h⟩ := bind_some h; refine B6 [⟨[], [], (.int .i64 x1), [], []⟩] [] ⟨[(4, (.bool (decide (((0 : Int) : Int) ≤ x1))))], [], []⟩ [(Spec Try.prog 55 [(AV.list 1 Ac (0 : Int) a_s .none), (.int .i64 a_v)] [] (.int .i64 x1) [])] hq ⟨(Gj a_s a_v x1 hx1), trivial⟩ ?_; refine Ar ?_; obtain rfl := OI h; exact ⟨.inl rfl, [], by kernel_rfl⟩
def Dm (a_x : Int) (x1 : List (A2)) : (Int × Int) → Option (LR (Int × Int) Int) :=
  fun ((i2, i3) : (Int × Int)) => (bif (decide ((i3 : Int) < (x1.length : Int))) then (Option.bind (α := Int) (Cl (A8 i3 x1.length) ((Cx ((x1.getD (i3).toNat (default : A2)).Body) a_x).bind fun x7 => (bif x7 then (some ((A0 (i2 + (1 : Int))))) else (some (i2))))) (fun x8 => ((some (.next (x8, (A0 (i3 + (1 : Int))))))))) else (some (.done i2)))
def X7 (x1 : List (A2)) : List (Nat × Own) := [(9, .tok 2 38 x1.length)]
def Vh (x1 : List (A2)) : AV := (.int .i64 (x1.length : Int))
def Vi (x1 : List (A2)) : AV := (AV.list 2 Dt (default : A2) x1 (.own 9))
def D8 (a_g : Ao) (a_x : Int) : Option Int :=
  ((Fm a_g).bind fun x1 => ((Aw (S := (Int × Int)) (X := Int) (Dm a_x x1) ((0 : Int), (0 : Int))).bind (fun x10 => ((some x10)))))
theorem Jc (a_g : Ao) (a_x : Int) (r : Int) (h : D8 a_g a_x = some r) : Spec Try.prog 19 [(.agg (B2 a_g)), (.int .i64 a_x)] [] (.int .i64 r) [] := by
  refine An (fn := Try.f19) Try.func19 rfl rfl (by kernel_rfl) (fun Γ hn hΓ => ?_); have hq : RgQ Try.prog Γ 23 [] := ⟨hn, mix, hΓ⟩; unfold D8 at h; refine Au ⟨[(1, (.int .i64 a_x)), (2, (.ptr 2 0))], [(2, .row 26 [(AV.list 1 At [] a_g.Succ .none), (AV.list 1 At [] a_g.Pred .none)])], []⟩ hq ?_; refine Au ⟨[(1, (.int .i64 a_x)), (2, (.ptr 2 0)), (5, (.int .i64 (0 : Int)))], [(2, .row 26 [(AV.list 1 At [] a_g.Succ .none), (AV.list 1 At [] a_g.Pred .none)])], []⟩ hq ?_; refine Ae ?_; obtain ⟨x1, hx1, h⟩ := bind_some h; refine B6 [⟨[], [(20000, 9)], (AV.list 2 Dt (default : A2) x1 (.own 20000)), [(20000, .tok 2 38 x1.length)], []⟩] [] ⟨[(1, (.int .i64 a_x)), (5, (.int .i64 (0 : Int))), (9, (Vi x1)), (10, (Vh x1)), (11, (.int .i64 (0 : Int)))], (X7 x1), []⟩ [(Spec Try.prog 12 [(.agg (B2 a_g))] [] (AV.list 2 Dt (default : A2) x1 (.own 20000)) [(20000, .tok 2 38 x1.length)])] hq ⟨(Lb a_g x1 hx1), trivial⟩ ?_; refine Aj ?_; refine Af (st' := (fun ((i2, i3) : (Int × Int)) => (⟨[(1, (.int .i64 a_x)), (5, (.int .i64 i2)), (9, (Vi x1)), (10, (Vh x1)), (11, (.int .i64 i3))], (X7 x1), []⟩ : St)) ((0 : Int), (0 : Int))) (Le.refl _ _) ?_; obtain ⟨x10, hx10, h⟩ := bind_some h; refine Bh (fun ((i2, i3) : (Int × Int)) => (⟨[(1, (.int .i64 a_x)), (5, (.int .i64 i2)), (9, (Vi x1)), (10, (Vh x1)), (11, (.int .i64 i3))], (X7 x1), []⟩ : St)) _ (fun (i4 : Int) (e : Exit) (st : St) => e = (.exit 0) ∧ Le Γ st (⟨[(5, (.int .i64 i4))], [], []⟩ : St)) ?_ hx10 ?_
  · rintro ⟨i2, i3⟩ y h; unfold Dm at h; refine Au ⟨[(1, (.int .i64 a_x)), (5, (.int .i64 i2)), (9, (Vi x1)), (10, (Vh x1)), (11, (.int .i64 i3)), (12, (.bool (decide ((i3 : Int) < (x1.length : Int)))))], (X7 x1), []⟩ hq ?_; refine Ae ?_; refine Ak (decide ((i3 : Int) < (x1.length : Int))) (by kernel_rfl) (fun hb => ?_) (fun hb => ?_)
    · replace h := Aq hb h; clear hb; refine Ai ?_; refine Aa ?_; refine Ae ?_; obtain ⟨x8, hx8, h⟩ := bind_some h; refine Ez (fun (i5 : Int) (e : Exit) (st : St) => e = .normal ∧ Le Γ st (⟨[(1, (.int .i64 a_x)), (5, (.int .i64 i5)), (9, (Vi x1)), (10, (Vh x1)), (11, (.int .i64 i3))], (X7 x1), []⟩ : St)) hx8 ?_ ?_
      · clear h hx8; intro y h; refine Aj ?_; obtain ⟨hc6, h⟩ := Ab h; refine B6 [] [] ⟨[(1, (.int .i64 a_x)), (5, (.int .i64 i2)), (7, (.ptr 7 0)), (9, (Vi x1)), (10, (Vh x1)), (11, (.int .i64 i3))], [(7, .row 38 [(.int .i64 (x1.getD (i3).toNat (default : A2)).Head), (AV.list 1 Ac (0 : Int) (x1.getD (i3).toNat (default : A2)).Body .none)]), (9, .tok 2 38 x1.length)], []⟩ [(A8 i3 x1.length)] hq ⟨hc6, trivial⟩ ?_; obtain ⟨x7, hx7, h⟩ := bind_some h; refine B6 [⟨[], [], (.bool x7), [], []⟩] [] ⟨[(1, (.int .i64 a_x)), (5, (.int .i64 i2)), (9, (Vi x1)), (10, (Vh x1)), (11, (.int .i64 i3)), (18, (.bool x7))], (X7 x1), []⟩ [(Spec Try.prog 38 [(AV.list 1 Ac (0 : Int) (x1.getD (i3).toNat (default : A2)).Body .none), (.int .i64 a_x)] [] (.bool x7) [])] hq ⟨(Il ((x1.getD (i3).toNat (default : A2)).Body) a_x x7 hx7), trivial⟩ ?_; refine Ak x7 (by kernel_rfl) (fun hb => ?_) (fun hb => ?_)
        · replace h := Aq hb h; clear hb; refine Mq ⟨[(1, (.int .i64 a_x)), (5, (.int .i64 (A0 (i2 + (1 : Int))))), (9, (Vi x1)), (10, (Vh x1)), (11, (.int .i64 i3))], (X7 x1), []⟩ hq ?_; refine Am ?_; obtain rfl := OI h; exact ⟨rfl, Le.refl _ _⟩
        · replace h := Ay hb h; clear hb; refine Ai ?_; refine Am ?_; obtain rfl := OI h; exact ⟨rfl, F2 [1, 5, 9, 10, 11] [9] hq⟩
      · clear hx8; rintro e st' ⟨rfl, hl9⟩; refine Aa ?_; refine Af hl9 ?_; refine Mq ⟨[(1, (.int .i64 a_x)), (5, (.int .i64 x8)), (9, (Vi x1)), (10, (Vh x1)), (11, (.int .i64 (A0 (i3 + (1 : Int)))))], (X7 x1), []⟩ hq ?_; obtain rfl := OI h; exact ⟨rfl, Le.refl _ _⟩
    · replace h := Ay hb h; clear hb; refine Bi ?_; refine A6 ?_; obtain rfl := OI h; exact ⟨(by intro hh; cases hh), rfl, F2 [5] [] hq⟩
  · clear hx10; rintro e st' ⟨rfl, hl11⟩; refine A1 ?_; refine Aa ?_; refine Af hl11 ?_; refine Au ⟨[(4, (.int .i64 x10))], [], []⟩ hq ?_; refine Ar ?_; obtain rfl := OI h; exact ⟨.inl rfl, [], by kernel_rfl⟩
def Bd (a_s : List ((Int × Int))) (a_v : (Int × Int)) : Int → Option (LR Int (Unit ⊕ Int)) :=
  fun (i1 : Int) => (bif (decide ((i1 : Int) < (a_s.length : Int))) then (Cl (A8 i1 a_s.length) (bif (((a_v.1 : Int) == (a_s.getD (i1).toNat ((0 : Int), (0 : Int))).1) && (((a_v.2 : Int) == (a_s.getD (i1).toNat ((0 : Int), (0 : Int))).2) && true)) then (some (.done (.inr i1))) else (some (.next (A0 (i1 + (1 : Int))))))) else (some (.done (.inl ()))))
def Aac (a_s : List ((Int × Int))) : AV := (.int .i64 (a_s.length : Int))
def Xl (a_s : List ((Int × Int))) : AV := (AV.list 2 Cp ((0 : Int), (0 : Int)) a_s .none)
def Xt (a_v : (Int × Int)) : List (Nat × Own) := [(3, .row 45 [(.int .i64 a_v.1), (.int .i64 a_v.2)])]
def Df (a_s : List ((Int × Int))) (a_v : (Int × Int)) : Option Int :=
  ((Aw (S := Int) (X := (Unit ⊕ Int)) (Bd a_s a_v) (0 : Int)).bind (fun x3 => (match x3 with | (.inl _) => (some (-1 : Int)) | (.inr r5) => (some r5))))
theorem H5 (a_s : List ((Int × Int))) (a_v : (Int × Int)) (r : Int) (h : Df a_s a_v = some r) : Spec Try.prog 58 [(AV.list 2 Cp ((0 : Int), (0 : Int)) a_s .none), (.agg (Cp a_v))] [] (.int .i64 r) [] := by
  refine An (fn := Try.f58) Try.func58 rfl rfl (by kernel_rfl) (fun Γ hn hΓ => ?_); have hq : RgQ Try.prog Γ 19 [] := ⟨hn, mix, hΓ⟩; unfold Df at h; refine Au ⟨[(0, (Xl a_s)), (3, (.ptr 3 0))], (Xt a_v), []⟩ hq ?_; refine Ae ?_; refine Au ⟨[(0, (Xl a_s)), (3, (.ptr 3 0)), (7, (Aac a_s)), (8, (.int .i64 (0 : Int)))], (Xt a_v), []⟩ hq ?_; refine Aj ?_; refine Af (st' := (fun (i1 : Int) => (⟨[(0, (Xl a_s)), (3, (.ptr 3 0)), (7, (Aac a_s)), (8, (.int .i64 i1))], (Xt a_v), []⟩ : St)) (0 : Int)) (Le.refl _ _) ?_; obtain ⟨x3, hx3, h⟩ := bind_some h; refine Bh (fun (i1 : Int) => (⟨[(0, (Xl a_s)), (3, (.ptr 3 0)), (7, (Aac a_s)), (8, (.int .i64 i1))], (Xt a_v), []⟩ : St)) _ (fun (x_ : (Unit ⊕ Int)) (e : Exit) (st : St) => match x_ with | (.inl _) => e = (.exit 0) ∧ Le Γ st (⟨[], [], []⟩ : St) | (.inr r_) => e = .ret ∧ La Try.prog Try.f58.results.toList [] (.int .i64 r_) [] e st) ?_ hx3 ?_
  · intro i1 y h; unfold Bd at h; refine Au ⟨[(0, (Xl a_s)), (3, (.ptr 3 0)), (7, (Aac a_s)), (8, (.int .i64 i1)), (9, (.bool (decide ((i1 : Int) < (a_s.length : Int)))))], (Xt a_v), []⟩ hq ?_; refine Ae ?_; refine Ak (decide ((i1 : Int) < (a_s.length : Int))) (by kernel_rfl) (fun hb => ?_) (fun hb => ?_)
    · replace h := Aq hb h; clear hb; refine Ai ?_; refine Aa ?_; refine Ae ?_; refine Aj ?_; refine Au ⟨[(0, (Xl a_s)), (3, (.ptr 3 0)), (5, (.int .i64 i1)), (7, (Aac a_s)), (8, (.int .i64 i1))], (Xt a_v), []⟩ hq ?_; obtain ⟨hc2, h⟩ := Ab h; refine B6 [] [] ⟨[(0, (Xl a_s)), (3, (.ptr 3 0)), (5, (.int .i64 i1)), (7, (Aac a_s)), (8, (.int .i64 i1)), (16, (.bool (((a_v.1 : Int) == (a_s.getD (i1).toNat ((0 : Int), (0 : Int))).1) && (((a_v.2 : Int) == (a_s.getD (i1).toNat ((0 : Int), (0 : Int))).2) && true))))], (Xt a_v), []⟩ [(A8 i1 a_s.length)] hq ⟨hc2, trivial⟩ ?_; refine Ak (((a_v.1 : Int) == (a_s.getD (i1).toNat ((0 : Int), (0 : Int))).1) && (((a_v.2 : Int) == (a_s.getD (i1).toNat ((0 : Int), (0 : Int))).2) && true)) (by kernel_rfl) (fun hb => ?_) (fun hb => ?_)
      · replace h := Aq hb h; clear hb; refine Au ⟨[(4, (.int .i64 i1))], [], []⟩ hq ?_; refine Ar ?_; refine Br ?_; refine A3 ?_; obtain rfl := OI h; exact ⟨(by intro hh; cases hh), rfl, ⟨.inl rfl, [], by kernel_rfl⟩⟩
      · replace h := Ay hb h; clear hb; refine Ai ?_; refine Am ?_; refine Aa ?_; refine Mq ⟨[(0, (Xl a_s)), (3, (.ptr 3 0)), (7, (Aac a_s)), (8, (.int .i64 (A0 (i1 + (1 : Int)))))], (Xt a_v), []⟩ hq ?_; obtain rfl := OI h; exact ⟨rfl, Le.refl _ _⟩
    · replace h := Ay hb h; clear hb; refine Bi ?_; refine A6 ?_; obtain rfl := OI h; exact ⟨(by intro hh; cases hh), rfl, F2 [] [] hq⟩
  · clear hx3; rcases x3 with _ | r5
    · rintro e st' ⟨rfl, hl4⟩; refine A1 ?_; refine Aa ?_; refine Af hl4 ?_; refine Au ⟨[(4, (.int .i64 (-1 : Int)))], [], []⟩ hq ?_; refine Ar ?_; obtain rfl := OI h; exact ⟨.inl rfl, [], by kernel_rfl⟩
    · rintro e st' ⟨rfl, hk⟩; refine Br ?_; refine A3 ?_; obtain rfl := OI h; exact hk
def Cg (a_s : List ((Int × Int))) (a_v : (Int × Int)) : Option Bool :=
  ((Df a_s a_v).bind fun x1 => (some (decide (((0 : Int) : Int) ≤ x1))))
theorem G8 (a_s : List ((Int × Int))) (a_v : (Int × Int)) (r : Bool) (h : Cg a_s a_v = some r) : Spec Try.prog 49 [(AV.list 2 Cp ((0 : Int), (0 : Int)) a_s .none), (.agg (Cp a_v))] [] (.bool r) [] := by
  refine An (fn := Try.f49) Try.func49 rfl rfl (by kernel_rfl) (fun Γ hn hΓ => ?_); have hq : RgQ Try.prog Γ 9 [] := ⟨hn, mix, hΓ⟩; unfold Cg at h; refine Au ⟨[(0, (AV.list 2 Cp ((0 : Int), (0 : Int)) a_s .none)), (3, (.ptr 3 0))], [(3, .row 45 [(.int .i64 a_v.1), (.int .i64 a_v.2)])], []⟩ hq ?_; obtain ⟨x1, hx1, h⟩ := bind_some h; refine B6 [⟨[], [], (.int .i64 x1), [], []⟩] [] ⟨[(4, (.bool (decide (((0 : Int) : Int) ≤ x1))))], [], []⟩ [(Spec Try.prog 58 [(AV.list 2 Cp ((0 : Int), (0 : Int)) a_s .none), (.agg (Cp a_v))] [] (.int .i64 x1) [])] hq ⟨(H5 a_s a_v x1 hx1), trivial⟩ ?_; refine Ar ?_; obtain rfl := OI h; exact ⟨.inl rfl, [], by kernel_rfl⟩
def Cf (a_succ : List (List (Int))) (a_ways : List ((Int × Int))) (i2 : Int) : (Int × List (List (Int))) → Option (LR (Int × List (List (Int))) (List (List (Int)))) :=
  fun ((i6, l7) : (Int × List (List (Int)))) => (bif (decide ((i6 : Int) < ((a_succ.getD (i2).toNat []).length : Int))) then (Option.bind (α := List (List (Int))) (Cl (A8 i6 (a_succ.getD (i2).toNat []).length) ((Cg a_ways (i2, ((a_succ.getD (i2).toNat []).getD (i6).toNat (0 : Int)))).bind fun x11 => (bif (!x11) then (Cl (A8 i2 l7.length) (Cl (A8 i2 l7.length) (Cl ((l7.getD (i2).toNat []).length + ([((a_succ.getD (i2).toNat []).getD (i6).toNat (0 : Int))] : List (Int)).length ≤ room) (Cl (A8 i2 l7.length) (some ((l7.set (i2).toNat ((l7.getD (i2).toNat []) ++ ([((a_succ.getD (i2).toNat []).getD (i6).toNat (0 : Int))] : List (Int)))))))))) else (some (l7))))) (fun x16 => ((some (.next ((A0 (i6 + (1 : Int))), x16)))))) else (some (.done l7)))
def C2 (a_succ : List (List (Int))) (a_ways : List ((Int × Int))) : (Int × List (List (Int))) → Option (LR (Int × List (List (Int))) (List (List (Int)))) :=
  fun ((i2, l3) : (Int × List (List (Int)))) => (bif (decide ((i2 : Int) < (a_succ.length : Int))) then (Cl (A8 i2 a_succ.length) ((Aw (S := (Int × List (List (Int)))) (X := List (List (Int))) (Cf a_succ a_ways i2) ((0 : Int), l3)).bind (fun x18 => ((some (.next ((A0 (i2 + (1 : Int))), x18))))))) else (some (.done l3)))
def Jg (l7 : List (List (Int))) (i2 : Int) := (l7.getD (i2).toNat [])
def Jk (a_succ : List (List (Int))) : AV := (AV.list 1 At [] a_succ .none)
def My (a_succ : List (List (Int))) : AV := (.int .i64 (a_succ.length : Int))
def It (a_ways : List ((Int × Int))) : AV := (AV.list 2 Cp ((0 : Int), (0 : Int)) a_ways .none)
def U3 (a_succ : List (List (Int))) (i2 : Int) : AV := (.int .i64 ((a_succ.getD (i2).toNat []).length : Int))
def Tl (a_succ : List (List (Int))) (i2 : Int) : AV := (AV.list 1 Ac (0 : Int) (a_succ.getD (i2).toNat []) .none)
def P5 (a_succ : List (List (Int))) := (List.replicate ((a_succ.length : Int)).toNat ([] : List (Int)))
def Q243 (a_succ : List (List (Int))) (i2 : Int) (i6 : Int) : AV := (.int .i64 ((a_succ.getD (i2).toNat []).getD (i6).toNat (0 : Int)))
def Q241 (l3 : List (List (Int))) : List (Nat × Own) := [(12, .arr 1 36 l3.length (Ct 1 Ac (0 : Int) l3 (Tag.fam 70012)))]
def Q242 (l7 : List (List (Int))) : List (Nat × Own) := [(12, .arr 1 36 l7.length (Ct 1 Ac (0 : Int) l7 (Tag.fam 70012)))]
def K5 (a_succ : List (List (Int))) (i2 : Int) (i6 : Int) := ([((a_succ.getD (i2).toNat []).getD (i6).toNat (0 : Int))] : List (Int))
def Q244 (a_ways : List ((Int × Int))) (l7 : List (List (Int))) (i2 : Int) (a_succ : List (List (Int))) (i6 : Int) : List (Nat × AV) := [(1, (It a_ways)), (5, (.vsl 12 l7.length)), (6, (.int .i64 i2)), (13, (Jk a_succ)), (14, (My a_succ)), (15, (.int .i64 i2)), (20, (Tl a_succ i2)), (21, (U3 a_succ i2)), (22, (.int .i64 i6))]
def Fo (a_succ : List (List (Int))) (a_ways : List ((Int × Int))) : Option (List (List (Int))) :=
  (Cl (0 ≤ (a_succ.length : Int) ∧ (a_succ.length : Int) ≤ (a_succ.length : Int) ∧ (a_succ.length : Int) ≤ (room : Int)) ((Aw (S := (Int × List (List (Int)))) (X := List (List (Int))) (C2 a_succ a_ways) ((0 : Int), (List.replicate ((a_succ.length : Int)).toNat ([] : List (Int))))).bind (fun x20 => ((some x20)))))
theorem Qf (a_succ : List (List (Int))) (a_ways : List ((Int × Int))) (r : List (List (Int))) (h : Fo a_succ a_ways = some r) : Spec Try.prog 33 [(AV.list 1 At [] a_succ .none), (AV.list 2 Cp ((0 : Int), (0 : Int)) a_ways .none)] [] (AV.list 1 At [] r (.own 20000)) [(20000, .tok 1 36 r.length)] := by
  refine An (fn := Try.f33) Try.func33 rfl rfl (by kernel_rfl) (fun Γ hn hΓ => ?_); have hq : RgQ Try.prog Γ 45 [] := ⟨hn, mix, hΓ⟩; unfold Fo at h; refine B6 [] [(4, (AV.list 1 At [] ([] : List (List (Int))) .exact))] ⟨[(0, (Jk a_succ)), (1, (It a_ways))], [], []⟩ [(AVle (.slice 0 0 (fun _ => []) .exact) (AV.list 1 At [] ([] : List (List (Int))) .exact))] hq ⟨D2, trivial⟩ ?_; obtain ⟨hc1, h⟩ := Ab h; refine B6 [] [] ⟨[(0, (Jk a_succ)), (1, (It a_ways)), (5, (.vsl 12 ((a_succ.length : Int)).toNat))], [(12, .arr 1 36 (((a_succ.length : Int)).toNat) (fun i_ => AV.eraseAll (fun n_ => B3 n_ [12]) ((fun _ => [(.slice 0 0 (fun _ => []) .exact)]) i_)))], []⟩ [(0 ≤ (a_succ.length : Int) ∧ (a_succ.length : Int) ≤ (a_succ.length : Int) ∧ (a_succ.length : Int) ≤ (room : Int))] hq ⟨hc1, trivial⟩ ?_; refine Af (Le.trans (Cd (st' := ⟨[(0, (Jk a_succ)), (1, (It a_ways)), (5, (.vsl 12 ((a_succ.length : Int)).toNat))], [(12, .arr 1 36 (((a_succ.length : Int)).toNat) (Ct 1 Ac (0 : Int) (P5 a_succ) (fun _ => .exact)))], []⟩) (TmpsLe.refl _) (.arr X2 .nil)) (Le.trans (Le.trans (Rs (r := 12) (b := 70012) Ac (0 : Int) (P5 a_succ) 3 rfl rfl (List.length_replicate ..).symm (fun h_ => absurd h_ (by decide))) (B0 (st' := ⟨[(0, (Jk a_succ)), (1, (It a_ways)), (5, (.vsl 12 ((a_succ.length : Int)).toNat))], [(12, .arr 1 36 (((a_succ.length : Int)).toNat) (Ct 1 Ac (0 : Int) (P5 a_succ) (Tag.fam 70012)))], [(70012, ⟨1, 3, Cw (P5 a_succ)⟩)]⟩) (by kernel_rfl))) (B0 (congrArg (fun k_ : Nat => (⟨[(0, (Jk a_succ)), (1, (It a_ways)), (5, (.vsl 12 k_))], [(12, .arr 1 36 k_ (Ct 1 Ac (0 : Int) (P5 a_succ) (Tag.fam 70012)))], [(70012, ⟨1, 3, Cw (P5 a_succ)⟩)]⟩ : St)) (show ((a_succ.length : Int)).toNat = (P5 a_succ).length from (List.length_replicate ..).symm))))) ?_; refine Ae ?_; refine Au ⟨[(1, (It a_ways)), (5, (.vsl 12 (P5 a_succ).length)), (13, (Jk a_succ)), (14, (My a_succ)), (15, (.int .i64 (0 : Int)))], [(12, .arr 1 36 ((P5 a_succ).length) (Ct 1 Ac (0 : Int) (P5 a_succ) (Tag.fam 70012)))], [(70012, ⟨1, 3, Cw (P5 a_succ)⟩)]⟩ hq ?_; refine Aj ?_; refine Af (st' := (fun ((i2, l3) : (Int × List (List (Int)))) => (⟨[(1, (It a_ways)), (5, (.vsl 12 l3.length)), (13, (Jk a_succ)), (14, (My a_succ)), (15, (.int .i64 i2))], (Q241 l3), [(70012, ⟨1, 3, Cw l3⟩)]⟩ : St)) ((0 : Int), (P5 a_succ))) (Le.refl _ _) ?_; obtain ⟨x20, hx20, h⟩ := bind_some h; refine Bh (fun ((i2, l3) : (Int × List (List (Int)))) => (⟨[(1, (It a_ways)), (5, (.vsl 12 l3.length)), (13, (Jk a_succ)), (14, (My a_succ)), (15, (.int .i64 i2))], (Q241 l3), [(70012, ⟨1, 3, Cw l3⟩)]⟩ : St)) _ (fun (l4 : List (List (Int))) (e : Exit) (st : St) => e = (.exit 0) ∧ Le Γ st (⟨[(5, (.vsl 12 l4.length))], [(12, .arr 1 36 l4.length (Ct 1 Ac (0 : Int) l4 (Tag.fam 70012)))], [(70012, ⟨1, 3, Cw l4⟩)]⟩ : St)) ?_ hx20 ?_
  · rintro ⟨i2, l3⟩ y h; unfold C2 at h; refine Au ⟨[(1, (It a_ways)), (5, (.vsl 12 l3.length)), (13, (Jk a_succ)), (14, (My a_succ)), (15, (.int .i64 i2)), (16, (.bool (decide ((i2 : Int) < (a_succ.length : Int)))))], (Q241 l3), [(70012, ⟨1, 3, Cw l3⟩)]⟩ hq ?_; refine Ae ?_; refine Ak (decide ((i2 : Int) < (a_succ.length : Int))) (by kernel_rfl) (fun hb => ?_) (fun hb => ?_)
    · replace h := Aq hb h; clear hb; refine Ai ?_; refine Aa ?_; refine Ae ?_; refine Aj ?_; obtain ⟨hc5, h⟩ := Ab h; refine B6 [] [] ⟨[(1, (It a_ways)), (5, (.vsl 12 l3.length)), (6, (.int .i64 i2)), (7, (Tl a_succ i2)), (13, (Jk a_succ)), (14, (My a_succ)), (15, (.int .i64 i2))], (Q241 l3), [(70012, ⟨1, 3, Cw l3⟩)]⟩ [(A8 i2 a_succ.length)] hq ⟨hc5, trivial⟩ ?_; refine Au ⟨[(1, (It a_ways)), (5, (.vsl 12 l3.length)), (6, (.int .i64 i2)), (13, (Jk a_succ)), (14, (My a_succ)), (15, (.int .i64 i2)), (20, (Tl a_succ i2)), (21, (U3 a_succ i2)), (22, (.int .i64 (0 : Int)))], (Q241 l3), [(70012, ⟨1, 3, Cw l3⟩)]⟩ hq ?_; refine Aj ?_; refine Af (st' := (fun ((i6, l7) : (Int × List (List (Int)))) => (⟨(Q244 a_ways l7 i2 a_succ i6), (Q242 l7), [(70012, ⟨1, 3, Cw l7⟩)]⟩ : St)) ((0 : Int), l3)) (Le.refl _ _) ?_; obtain ⟨x18, hx18, h⟩ := bind_some h; refine Bh (fun ((i6, l7) : (Int × List (List (Int)))) => (⟨(Q244 a_ways l7 i2 a_succ i6), (Q242 l7), [(70012, ⟨1, 3, Cw l7⟩)]⟩ : St)) _ (fun (l8 : List (List (Int))) (e : Exit) (st : St) => e = (.exit 2) ∧ Le Γ st (⟨[(1, (It a_ways)), (5, (.vsl 12 l8.length)), (13, (Jk a_succ)), (14, (My a_succ)), (15, (.int .i64 i2))], [(12, .arr 1 36 l8.length (Ct 1 Ac (0 : Int) l8 (Tag.fam 70012)))], [(70012, ⟨1, 3, Cw l8⟩)]⟩ : St)) ?_ hx18 ?_
      · rintro ⟨i6, l7⟩ y h; unfold Cf at h; refine Au ⟨[(1, (It a_ways)), (5, (.vsl 12 l7.length)), (6, (.int .i64 i2)), (13, (Jk a_succ)), (14, (My a_succ)), (15, (.int .i64 i2)), (20, (Tl a_succ i2)), (21, (U3 a_succ i2)), (22, (.int .i64 i6)), (23, (.bool (decide ((i6 : Int) < ((a_succ.getD (i2).toNat []).length : Int)))))], (Q242 l7), [(70012, ⟨1, 3, Cw l7⟩)]⟩ hq ?_; refine Ae ?_; refine Ak (decide ((i6 : Int) < ((a_succ.getD (i2).toNat []).length : Int))) (by kernel_rfl) (fun hb => ?_) (fun hb => ?_)
        · replace h := Aq hb h; clear hb; refine Ai ?_; refine Aa ?_; refine Ae ?_; obtain ⟨x16, hx16, h⟩ := bind_some h; refine Ez (fun (l9 : List (List (Int))) (e : Exit) (st : St) => e = .normal ∧ Le Γ st (⟨[(1, (It a_ways)), (5, (.vsl 12 l9.length)), (6, (.int .i64 i2)), (13, (Jk a_succ)), (14, (My a_succ)), (15, (.int .i64 i2)), (20, (Tl a_succ i2)), (21, (U3 a_succ i2)), (22, (.int .i64 i6))], [(12, .arr 1 36 l9.length (Ct 1 Ac (0 : Int) l9 (Tag.fam 70012)))], [(70012, ⟨1, 3, Cw l9⟩)]⟩ : St)) hx16 ?_ ?_
          · clear h hx16; intro y h; refine Aj ?_; obtain ⟨hc10, h⟩ := Ab h; refine B6 [] [] ⟨[(1, (It a_ways)), (5, (.vsl 12 l7.length)), (6, (.int .i64 i2)), (9, (Q243 a_succ i2 i6)), (13, (Jk a_succ)), (14, (My a_succ)), (15, (.int .i64 i2)), (20, (Tl a_succ i2)), (21, (U3 a_succ i2)), (22, (.int .i64 i6))], (Q242 l7), [(70012, ⟨1, 3, Cw l7⟩)]⟩ [(A8 i6 (a_succ.getD (i2).toNat []).length)] hq ⟨hc10, trivial⟩ ?_; obtain ⟨x11, hx11, h⟩ := bind_some h; refine B6 [⟨[], [], (.bool x11), [], []⟩] [] ⟨[(1, (It a_ways)), (5, (.vsl 12 l7.length)), (6, (.int .i64 i2)), (9, (Q243 a_succ i2 i6)), (13, (Jk a_succ)), (14, (My a_succ)), (15, (.int .i64 i2)), (20, (Tl a_succ i2)), (21, (U3 a_succ i2)), (22, (.int .i64 i6)), (31, (.bool (!x11)))], (Q242 l7), [(70012, ⟨1, 3, Cw l7⟩)]⟩ [(Spec Try.prog 49 [(It a_ways), (.agg [(.int .i64 i2), (Q243 a_succ i2 i6)])] [] (.bool x11) [])] hq ⟨(G8 a_ways (i2, ((a_succ.getD (i2).toNat []).getD (i6).toNat (0 : Int))) x11 hx11), trivial⟩ ?_; refine Ak (!x11) (by kernel_rfl) (fun hb => ?_) (fun hb => ?_)
            · replace h := Aq hb h; clear hb; obtain ⟨hc12, h⟩ := Ab h; obtain ⟨hc13, h⟩ := Ab h; obtain ⟨hc14, h⟩ := Ab h; obtain ⟨hc15, h⟩ := Ab h; refine Af (Le.trans (V1 (r := 12) (b := 70012) (k := 60012) Ac (0 : Int) l7 (i2).toNat 3 rfl rfl rfl rfl (Dy hc12) (by kernel_rfl) (.here .nil)) (B0 (st' := ⟨[(1, (It a_ways)), (5, (.vsl 12 l7.length)), (6, (.int .i64 i2)), (9, (Q243 a_succ i2 i6)), (13, (Jk a_succ)), (14, (My a_succ)), (15, (.int .i64 i2)), (20, (Tl a_succ i2)), (21, (U3 a_succ i2)), (22, (.int .i64 i6)), (31, (.bool (!x11)))], [(12, .arr 1 36 l7.length (Ct 1 Ac (0 : Int) l7 (Dd 70012 (i2).toNat 60012))), (60012, .tok 1 3 ((Jg l7 i2).length))], [(70012, ⟨1, 3, Jp l7 (i2).toNat⟩)]⟩) (by kernel_rfl))) ?_; refine rg [] [(37, (AV.list 1 Ac (0 : Int) (Jg l7 i2) (.own 60012))), (39, (AV.list 1 Ac (0 : Int) (K5 a_succ i2 i6) .exact)), (40, (AV.list 1 Ac (0 : Int) ((Jg l7 i2) ++ (K5 a_succ i2 i6)) (.own 60012)))] ⟨(Q244 a_ways l7 i2 a_succ i6), [(12, .arr 1 36 l7.length (fun i_ => AV.eraseAll (fun n_ => B3 n_ [12, 60012, 70012]) ((E6 (Ct 1 Ac (0 : Int) l7 (Dd 70012 (i2).toNat 60012)) (i2).toNat 0 [(AV.list 1 Ac (0 : Int) ((Jg l7 i2) ++ (K5 a_succ i2 i6)) (.own 60012))]) i_))), (60012, .tok 1 3 (((Jg l7 i2) ++ (K5 a_succ i2 i6)).length))], [(70012, ⟨1, 3, Jp l7 (i2).toNat⟩)]⟩ [(A8 i2 l7.length), (l7.length = l7.length), (AVle (((Ct 1 Ac (0 : Int) l7 (Dd 70012 (i2).toNat 60012)) (i2).toNat).getD 0 .any) (AV.list 1 Ac (0 : Int) (Jg l7 i2) (.own 60012))), (AVle (.slice 1 1 (fun i => ([[(Q243 a_succ i2 i6)]] : List (List AV)).getD i []) .exact) (AV.list 1 Ac (0 : Int) (K5 a_succ i2 i6) .exact)), ((Jg l7 i2).length = (Jg l7 i2).length), ((Jg l7 i2).length + (K5 a_succ i2 i6).length ≤ room), (AVle (.slice 1 ((Jg l7 i2).length + (K5 a_succ i2 i6).length) (E1 (Jg l7 i2).length (fun i => Ac ((Jg l7 i2).getD i (0 : Int))) (fun i => Ac ((K5 a_succ i2 i6).getD i (0 : Int)))) (.own 60012)) (AV.list 1 Ac (0 : Int) ((Jg l7 i2) ++ (K5 a_succ i2 i6)) (.own 60012))), ((Jg l7 i2).length + (K5 a_succ i2 i6).length = ((Jg l7 i2) ++ (K5 a_succ i2 i6)).length), (A8 i2 l7.length), (l7.length = l7.length)] hq ⟨hc13, rfl, Pc, (E5 rfl (fun i hi => En (e := Ac) (d := (0 : Int)) (K5 a_succ i2 i6) i hi)), rfl, hc14, Nf, (D7 _ _), hc15, rfl, trivial⟩ ?_; refine Am ?_; obtain rfl := OI h; exact ⟨rfl, Le.trans (Le.trans (Le.trans (Z4 (r := 12) (b := 70012) (k := 60012) Ac (0 : Int) l7 (i2).toNat ((Jg l7 i2) ++ (K5 a_succ i2 i6)) 3 rfl (R4 (Dy hc12) rfl rfl) rfl rfl rfl rfl (Dy hc12) (by kernel_rfl) (.here (.tok .nil)) (by rw [hΓ]; rfl)) (B0 (st' := ⟨(Q244 a_ways l7 i2 a_succ i6), [(12, .arr 1 36 l7.length (Ct 1 Ac (0 : Int) (l7.set (i2).toNat ((Jg l7 i2) ++ (K5 a_succ i2 i6))) (Tag.fam 70012)))], [(70012, ⟨1, 3, Cw (l7.set (i2).toNat ((Jg l7 i2) ++ (K5 a_succ i2 i6)))⟩)]⟩) (by kernel_rfl))) (B0 (congrArg (fun k_ : Nat => (⟨[(1, (It a_ways)), (5, (.vsl 12 k_)), (6, (.int .i64 i2)), (13, (Jk a_succ)), (14, (My a_succ)), (15, (.int .i64 i2)), (20, (Tl a_succ i2)), (21, (U3 a_succ i2)), (22, (.int .i64 i6))], [(12, .arr 1 36 k_ (Ct 1 Ac (0 : Int) (l7.set (i2).toNat ((Jg l7 i2) ++ (K5 a_succ i2 i6))) (Tag.fam 70012)))], [(70012, ⟨1, 3, Cw (l7.set (i2).toNat ((Jg l7 i2) ++ (K5 a_succ i2 i6)))⟩)]⟩ : St)) (show l7.length = (l7.set (i2).toNat ((Jg l7 i2) ++ (K5 a_succ i2 i6))).length from (List.length_set ..).symm)))) (Le.refl _ _)⟩
            · replace h := Ay hb h; clear hb; refine Ai ?_; refine Am ?_; obtain rfl := OI h; exact ⟨rfl, F2 [1, 5, 6, 13, 14, 15, 20, 21, 22] [12, 70012] hq⟩
          · clear hx16; rintro e st' ⟨rfl, hl17⟩; refine Aa ?_; refine Af hl17 ?_; refine Mq ⟨[(1, (It a_ways)), (5, (.vsl 12 x16.length)), (6, (.int .i64 i2)), (13, (Jk a_succ)), (14, (My a_succ)), (15, (.int .i64 i2)), (20, (Tl a_succ i2)), (21, (U3 a_succ i2)), (22, (.int .i64 (A0 (i6 + (1 : Int)))))], [(12, .arr 1 36 x16.length (Ct 1 Ac (0 : Int) x16 (Tag.fam 70012)))], [(70012, ⟨1, 3, Cw x16⟩)]⟩ hq ?_; obtain rfl := OI h; exact ⟨rfl, Le.refl _ _⟩
        · replace h := Ay hb h; clear hb; refine Bi ?_; refine A6 ?_; obtain rfl := OI h; exact ⟨(by intro hh; cases hh), rfl, F2 [1, 5, 13, 14, 15] [12, 70012] hq⟩
      · clear hx18; rintro e st' ⟨rfl, hl19⟩; refine A1 ?_; refine Am ?_; refine Aa ?_; refine Af hl19 ?_; refine Mq ⟨[(1, (It a_ways)), (5, (.vsl 12 x18.length)), (13, (Jk a_succ)), (14, (My a_succ)), (15, (.int .i64 (A0 (i2 + (1 : Int)))))], [(12, .arr 1 36 x18.length (Ct 1 Ac (0 : Int) x18 (Tag.fam 70012)))], [(70012, ⟨1, 3, Cw x18⟩)]⟩ hq ?_; obtain rfl := OI h; exact ⟨rfl, Le.refl _ _⟩
    · replace h := Ay hb h; clear hb; refine Bi ?_; refine A6 ?_; obtain rfl := OI h; exact ⟨(by intro hh; cases hh), rfl, F2 [5] [12, 70012] hq⟩
  · clear hx20; rintro e st' ⟨rfl, hl21⟩; refine A1 ?_; refine Aa ?_; refine Af hl21 ?_; refine Au ⟨[(4, (.vsl 12 x20.length))], [(12, .arr 1 36 x20.length (Ct 1 Ac (0 : Int) x20 (Tag.fam 70012)))], [(70012, ⟨1, 3, Cw x20⟩)]⟩ hq ?_; refine Af (Le.trans (Gi (nm := 12) (sz := 1) (n := x20.length) (e := 36) (f := (Ct 1 Ac (0 : Int) x20 (Tag.fam 70012))) (g := (fun i => At (x20.getD i []))) rfl ⟨rfl, trivial⟩ (fun _ _ => rfl) (by rw [hΓ]; rfl)) (F2 (st' := ⟨[(4, (AV.list 1 At [] x20 (.own 12)))], [(12, .tok 1 36 x20.length)], []⟩) [4] [12] hq)) ?_; refine Ar ?_; obtain rfl := OI h; exact ⟨.inl rfl, [(12, 20000)], by kernel_rfl⟩
def Ew (a_to : Int) (a_p1 : List (Bool)) : Option (Bool × List (Bool)) :=
  (Cl (A8 a_to 64) (some ((a_p1.getD (a_to).toNat false), a_p1)))
theorem Nx (a_to : Int) (a_p1 : List (Bool)) (r : (Bool × List (Bool))) (h : Ew a_to a_p1 = some r) : Spec Try.prog 35 [(.int .i64 a_to), (.vpt 34001 64 0 0)] [(34001, .arr 1 53 64 (fun i => eB (a_p1.getD i false)))] (.bool r.1) [(34001, .arr 1 53 64 (fun i => eB (r.2.getD i false)))] := by
  refine An (fn := Try.f35) Try.func35 rfl rfl (by kernel_rfl) (fun Γ hn hΓ => ?_); have hq : RgQ Try.prog Γ 7 [(34001, .arr 1 53 64 (fun i => eB (a_p1.getD i false)))] := ⟨hn, mix, hΓ⟩; unfold Ew at h; refine Au ⟨[(0, (.int .i64 a_to)), (1, (.vpt 34001 64 0 0))], [(34001, .arr 1 53 64 (fun i => eB (a_p1.getD i false)))], []⟩ hq ?_; obtain ⟨hc1, h⟩ := Ab h; refine B6 [] [] ⟨[(3, (.bool (a_p1.getD (a_to).toNat false)))], [(34001, .arr 1 53 64 (fun i => eB (a_p1.getD i false)))], []⟩ [(A8 a_to 64), (64 = 64)] hq ⟨hc1, rfl, trivial⟩ ?_; refine Ar ?_; obtain rfl := OI h; exact ⟨.inl rfl, [(34001, 34001)], by kernel_rfl⟩
def Be (a_s : List (Int)) : (Int × List (Bool)) → Option (LR (Int × List (Bool)) (List (Bool) ⊕ (Int × List (Bool)))) :=
  fun ((i1, l2) : (Int × List (Bool))) => (bif (decide ((i1 : Int) < (a_s.length : Int))) then (Cl (A8 i1 a_s.length) ((Ew (a_s.getD (i1).toNat (0 : Int)) l2).bind fun x5 => (bif x5.1 then (some (.done (.inr (i1, x5.2)))) else (some (.next ((A0 (i1 + (1 : Int))), x5.2)))))) else (some (.done (.inl l2))))
def Ze : AV := (.clo 35 [] [(.vpt 38000 64 0 0)])
def Ys (a_s : List (Int)) : AV := (AV.list 1 Ac (0 : Int) a_s .none)
def Q245 (a_s : List (Int)) (i1 : Int) (l2 : List (Bool)) := (⟨[(0, (Ys a_s)), (1, Ze), (7, (.int .i64 (a_s.length : Int))), (8, (.int .i64 i1))], [(38000, .arr 1 53 64 (fun i => eB (l2.getD i false)))], []⟩ : St)
def Dh (a_s : List (Int)) (a_fc0 : List (Bool)) : Option (Int × List (Bool)) :=
  ((Aw (S := (Int × List (Bool))) (X := (List (Bool) ⊕ (Int × List (Bool)))) (Be a_s) ((0 : Int), a_fc0)).bind (fun x6 => (match x6 with | (.inl l3) => (some ((-1 : Int), l3)) | (.inr r8) => (some r8))))
theorem H3 (a_s : List (Int)) (a_fc0 : List (Bool)) (r : (Int × List (Bool))) (h : Dh a_s a_fc0 = some r) : Spec Try.prog 50 [(AV.list 1 Ac (0 : Int) a_s .none), (.clo 35 [] [(.vpt 38000 64 0 0)])] [(38000, .arr 1 53 64 (fun i => eB (a_fc0.getD i false)))] (.int .i64 r.1) [(38000, .arr 1 53 64 (fun i => eB (r.2.getD i false)))] := by
  refine An (fn := Try.f50) Try.func50 rfl rfl (by kernel_rfl) (fun Γ hn hΓ => ?_); have hq : RgQ Try.prog Γ 19 [(38000, .arr 1 53 64 (fun i => eB (a_fc0.getD i false)))] := ⟨hn, mix, hΓ⟩; unfold Dh at h; refine Au ⟨[(0, (Ys a_s)), (1, Ze)], [(38000, .arr 1 53 64 (fun i => eB (a_fc0.getD i false)))], []⟩ hq ?_; refine Ae ?_; refine Au ⟨[(0, (Ys a_s)), (1, Ze), (7, (.int .i64 (a_s.length : Int))), (8, (.int .i64 (0 : Int)))], [(38000, .arr 1 53 64 (fun i => eB (a_fc0.getD i false)))], []⟩ hq ?_; refine Aj ?_; refine Af (st' := (fun ((i1, l2) : (Int × List (Bool))) => (Q245 a_s i1 l2)) ((0 : Int), a_fc0)) (Le.refl _ _) ?_; obtain ⟨x6, hx6, h⟩ := bind_some h; refine Bh (fun ((i1, l2) : (Int × List (Bool))) => (Q245 a_s i1 l2)) _ (fun (x_ : (List (Bool) ⊕ (Int × List (Bool)))) (e : Exit) (st : St) => match x_ with | (.inl l3) => e = (.exit 0) ∧ Le Γ st (⟨[], [(38000, .arr 1 53 64 (fun i => eB (l3.getD i false)))], []⟩ : St) | (.inr r_) => e = .ret ∧ La Try.prog Try.f50.results.toList [(38000, .arr 1 53 64 (fun i => eB (a_fc0.getD i false)))] (.int .i64 r_.1) [(38000, .arr 1 53 64 (fun i => eB (r_.2.getD i false)))] e st) ?_ hx6 ?_
  · rintro ⟨i1, l2⟩ y h; unfold Be at h; refine Au ⟨[(0, (Ys a_s)), (1, Ze), (7, (.int .i64 (a_s.length : Int))), (8, (.int .i64 i1)), (9, (.bool (decide ((i1 : Int) < (a_s.length : Int)))))], [(38000, .arr 1 53 64 (fun i => eB (l2.getD i false)))], []⟩ hq ?_; refine Ae ?_; refine Ak (decide ((i1 : Int) < (a_s.length : Int))) (by kernel_rfl) (fun hb => ?_) (fun hb => ?_)
    · replace h := Aq hb h; clear hb; refine Ai ?_; refine Aa ?_; refine Ae ?_; refine Aj ?_; refine Au ⟨[(0, (Ys a_s)), (1, Ze), (5, (.int .i64 i1)), (7, (.int .i64 (a_s.length : Int))), (8, (.int .i64 i1))], [(38000, .arr 1 53 64 (fun i => eB (l2.getD i false)))], []⟩ hq ?_; obtain ⟨hc4, h⟩ := Ab h; obtain ⟨x5, hx5, h⟩ := bind_some h; refine B6 [⟨[(38000, 34001)], [], (.bool x5.1), [(34001, .arr 1 53 64 (fun i => eB (x5.2.getD i false)))], []⟩] [] ⟨[(0, (Ys a_s)), (1, Ze), (5, (.int .i64 i1)), (7, (.int .i64 (a_s.length : Int))), (8, (.int .i64 i1)), (16, (.bool x5.1))], [(38000, .arr 1 53 64 (fun i => eB (x5.2.getD i false)))], []⟩ [(A8 i1 a_s.length), (Spec Try.prog 35 [(.int .i64 (a_s.getD (i1).toNat (0 : Int))), (.vpt 34001 64 0 0)] [(34001, .arr 1 53 64 (fun i => eB (l2.getD i false)))] (.bool x5.1) [(34001, .arr 1 53 64 (fun i => eB (x5.2.getD i false)))])] hq ⟨hc4, (Nx (a_s.getD (i1).toNat (0 : Int)) l2 x5 hx5), trivial⟩ ?_; refine Ak x5.1 (by kernel_rfl) (fun hb => ?_) (fun hb => ?_)
      · replace h := Aq hb h; clear hb; refine Au ⟨[(4, (.int .i64 i1))], [(38000, .arr 1 53 64 (fun i => eB (x5.2.getD i false)))], []⟩ hq ?_; refine Ar ?_; refine Br ?_; refine A3 ?_; obtain rfl := OI h; exact ⟨(by intro hh; cases hh), rfl, ⟨.inl rfl, [(38000, 38000)], by kernel_rfl⟩⟩
      · replace h := Ay hb h; clear hb; refine Ai ?_; refine Am ?_; refine Aa ?_; refine Mq ⟨[(0, (Ys a_s)), (1, Ze), (7, (.int .i64 (a_s.length : Int))), (8, (.int .i64 (A0 (i1 + (1 : Int)))))], [(38000, .arr 1 53 64 (fun i => eB (x5.2.getD i false)))], []⟩ hq ?_; obtain rfl := OI h; exact ⟨rfl, Le.refl _ _⟩
    · replace h := Ay hb h; clear hb; refine Bi ?_; refine A6 ?_; obtain rfl := OI h; exact ⟨(by intro hh; cases hh), rfl, F2 [] [38000] hq⟩
  · clear hx6; rcases x6 with l3 | r8
    · rintro e st' ⟨rfl, hl7⟩; refine A1 ?_; refine Aa ?_; refine Af hl7 ?_; refine Au ⟨[(4, (.int .i64 (-1 : Int)))], [(38000, .arr 1 53 64 (fun i => eB (l3.getD i false)))], []⟩ hq ?_; refine Ar ?_; obtain rfl := OI h; exact ⟨.inl rfl, [(38000, 38000)], by kernel_rfl⟩
    · rintro e st' ⟨rfl, hk⟩; refine Br ?_; refine A3 ?_; obtain rfl := OI h; exact hk
def Ch (a_s : List (Int)) (a_fc0 : List (Bool)) : Option (Bool × List (Bool)) :=
  ((Dh a_s a_fc0).bind fun x1 => (some ((decide (((0 : Int) : Int) ≤ x1.1)), x1.2)))
theorem Ha (a_s : List (Int)) (a_fc0 : List (Bool)) (r : (Bool × List (Bool))) (h : Ch a_s a_fc0 = some r) : Spec Try.prog 34 [(AV.list 1 Ac (0 : Int) a_s .none), (.clo 35 [] [(.vpt 38000 64 0 0)])] [(38000, .arr 1 53 64 (fun i => eB (a_fc0.getD i false)))] (.bool r.1) [(38000, .arr 1 53 64 (fun i => eB (r.2.getD i false)))] := by
  refine An (fn := Try.f34) Try.func34 rfl rfl (by kernel_rfl) (fun Γ hn hΓ => ?_); have hq : RgQ Try.prog Γ 9 [(38000, .arr 1 53 64 (fun i => eB (a_fc0.getD i false)))] := ⟨hn, mix, hΓ⟩; unfold Ch at h; refine Au ⟨[(0, (AV.list 1 Ac (0 : Int) a_s .none)), (1, (.clo 35 [] [(.vpt 38000 64 0 0)]))], [(38000, .arr 1 53 64 (fun i => eB (a_fc0.getD i false)))], []⟩ hq ?_; obtain ⟨x1, hx1, h⟩ := bind_some h; refine B6 [⟨[(38000, 38000)], [], (.int .i64 x1.1), [(38000, .arr 1 53 64 (fun i => eB (x1.2.getD i false)))], []⟩] [] ⟨[(4, (.bool (decide (((0 : Int) : Int) ≤ x1.1))))], [(38000, .arr 1 53 64 (fun i => eB (x1.2.getD i false)))], []⟩ [(Spec Try.prog 50 [(AV.list 1 Ac (0 : Int) a_s .none), (.clo 35 [] [(.vpt 38000 64 0 0)])] [(38000, .arr 1 53 64 (fun i => eB (a_fc0.getD i false)))] (.int .i64 x1.1) [(38000, .arr 1 53 64 (fun i => eB (x1.2.getD i false)))])] hq ⟨(H3 a_s a_fc0 x1 hx1), trivial⟩ ?_; refine Ar ?_; obtain rfl := OI h; exact ⟨.inl rfl, [(38000, 38000)], by kernel_rfl⟩
def Cc (a_g : Ao) (x1 : List (Int)) : (Int × List (Bool)) → Option (LR (Int × List (Bool)) (Unit ⊕ Bool)) :=
  fun ((i2, l3) : (Int × List (Bool))) => (bif (decide ((i2 : Int) < (x1.length : Int))) then (Cl (A8 i2 x1.length) (Cl (A8 (x1.getD (i2).toNat (0 : Int)) 64) (Cl (A8 (x1.getD (i2).toNat (0 : Int)) a_g.Succ.length) ((Ch (a_g.Succ.getD ((x1.getD (i2).toNat (0 : Int))).toNat []) (Dp 64 false l3 ((x1.getD (i2).toNat (0 : Int))).toNat true)).bind fun x7 => (bif x7.1 then (some (.done (.inr false))) else (some (.next ((A0 (i2 + (1 : Int))), x7.2)))))))) else (some (.done (.inl ()))))
def U6 (x1 : List (Int)) (i2 : Int) := (x1.getD (i2).toNat (0 : Int))
def Tk (x1 : List (Int)) : AV := (AV.list 1 Ac (0 : Int) x1 (.own 8))
def Sb (a_g : Ao) : List AV := [(AV.list 1 At [] a_g.Succ .none), (AV.list 1 At [] a_g.Pred .none)]
def Q251 (a_g : Ao) (l3 : List (Bool)) (x1 : List (Int)) : List (Nat × Own) := [(1, .row 26 (Sb a_g)), (4, .arr 1 53 64 (fun i => eB (l3.getD i false))), (8, .tok 1 3 x1.length)]
def Q250 (x1 : List (Int)) (i2 : Int) : List (Nat × AV) := [(1, (.ptr 1 0)), (4, (.vpt 4 64 0 0)), (12, (Tk x1)), (13, (.int .i64 (x1.length : Int))), (14, (.int .i64 i2))]
def Q249 (x1 : List (Int)) (i2 : Int) : List (Nat × AV) := [(1, (.ptr 1 0)), (4, (.vpt 4 64 0 0)), (6, (.int .i64 (U6 x1 i2))), (12, (Tk x1)), (13, (.int .i64 (x1.length : Int))), (14, (.int .i64 i2))]
def D1 (a_g : Ao) : Option Bool :=
  ((C9 a_g (0 : Int)).bind fun x1 => (bif (((x1.length : Int) : Int) == (0 : Int)) then (some false) else ((Aw (S := (Int × List (Bool))) (X := (Unit ⊕ Bool)) (Cc a_g x1) ((0 : Int), (List.replicate 64 false))).bind (fun x8 => (match x8 with | (.inl _) => (some true) | (.inr r10) => (some r10))))))
theorem Hu (a_g : Ao) (r : Bool) (h : D1 a_g = some r) : Spec Try.prog 16 [(.agg (B2 a_g))] [] (.bool r) [] := by
  refine An (fn := Try.f16) Try.func16 rfl rfl (by kernel_rfl) (fun Γ hn hΓ => ?_); have hq : RgQ Try.prog Γ 28 [] := ⟨hn, mix, hΓ⟩; unfold D1 at h; refine Au ⟨[(1, (.ptr 1 0))], [(1, .row 26 (Sb a_g))], []⟩ hq ?_; obtain ⟨x1, hx1, h⟩ := bind_some h; refine B6 [⟨[], [(20000, 8)], (AV.list 1 Ac (0 : Int) x1 (.own 20000)), [(20000, .tok 1 3 x1.length)], []⟩] [] ⟨[(1, (.ptr 1 0)), (3, (Tk x1))], [(1, .row 26 (Sb a_g)), (8, .tok 1 3 x1.length)], []⟩ [(Spec Try.prog 20 [(.agg (B2 a_g)), (.int .i64 (0 : Int))] [] (AV.list 1 Ac (0 : Int) x1 (.own 20000)) [(20000, .tok 1 3 x1.length)])] hq ⟨(Ii a_g (0 : Int) x1 hx1), trivial⟩ ?_; refine Ae ?_; refine Au ⟨[(1, (.ptr 1 0)), (3, (Tk x1)), (11, (.bool (((x1.length : Int) : Int) == (0 : Int))))], [(1, .row 26 (Sb a_g)), (8, .tok 1 3 x1.length)], []⟩ hq ?_; refine Ak (((x1.length : Int) : Int) == (0 : Int)) (by kernel_rfl) (fun hb => ?_) (fun hb => ?_)
  · replace h := Aq hb h; clear hb; refine Au ⟨[(2, (.bool false))], [], []⟩ hq ?_; refine Ar ?_; refine A3 ?_; obtain rfl := OI h; exact ⟨.inl rfl, [], by kernel_rfl⟩
  · replace h := Ay hb h; clear hb; refine Ai ?_; refine Aa ?_; refine B6 [] [(4, (.vpt 4 64 0 0))] ⟨[(1, (.ptr 1 0)), (3, (Tk x1)), (4, (.vpt 4 64 0 0))], [(1, .row 26 (Sb a_g)), (4, .arr 1 53 64 (fun i_ => AV.eraseAll (fun n_ => B3 n_ [1, 4, 8]) ((fun i => (((List.replicate 64 [(.bool false)]).flatten).drop (i * 1)).take 1) i_))), (8, .tok 1 3 x1.length)], []⟩ [] hq trivial ?_; refine Af (Cd (st' := ⟨[(1, (.ptr 1 0)), (3, (Tk x1)), (4, (.vpt 4 64 0 0))], [(1, .row 26 (Sb a_g)), (4, .arr 1 53 64 (fun i => eB ((List.replicate 64 false).getD i false))), (8, .tok 1 3 x1.length)], []⟩) (TmpsLe.refl _) (.same (.arr (H7 (e := eB) (d := false) (z := [(.bool false)]) rfl rfl rfl) (.same .nil)))) ?_; refine Ae ?_; refine Au ⟨[(1, (.ptr 1 0)), (4, (.vpt 4 64 0 0)), (12, (Tk x1)), (13, (.int .i64 (x1.length : Int))), (14, (.int .i64 (0 : Int)))], [(1, .row 26 (Sb a_g)), (4, .arr 1 53 64 (fun i => eB ((List.replicate 64 false).getD i false))), (8, .tok 1 3 x1.length)], []⟩ hq ?_; refine Aj ?_; refine Af (st' := (fun ((i2, l3) : (Int × List (Bool))) => (⟨(Q250 x1 i2), (Q251 a_g l3 x1), []⟩ : St)) ((0 : Int), (List.replicate 64 false))) (Le.refl _ _) ?_; obtain ⟨x8, hx8, h⟩ := bind_some h; refine Bh (fun ((i2, l3) : (Int × List (Bool))) => (⟨(Q250 x1 i2), (Q251 a_g l3 x1), []⟩ : St)) _ (fun (x_ : (Unit ⊕ Bool)) (e : Exit) (st : St) => match x_ with | (.inl _) => e = (.exit 0) ∧ Le Γ st (⟨[], [], []⟩ : St) | (.inr r_) => e = .ret ∧ La Try.prog Try.f16.results.toList [] (.bool r_) [] e st) ?_ hx8 ?_
    · rintro ⟨i2, l3⟩ y h; unfold Cc at h; refine Au ⟨[(1, (.ptr 1 0)), (4, (.vpt 4 64 0 0)), (12, (Tk x1)), (13, (.int .i64 (x1.length : Int))), (14, (.int .i64 i2)), (15, (.bool (decide ((i2 : Int) < (x1.length : Int)))))], (Q251 a_g l3 x1), []⟩ hq ?_; refine Ae ?_; refine Ak (decide ((i2 : Int) < (x1.length : Int))) (by kernel_rfl) (fun hb => ?_) (fun hb => ?_)
      · replace h := Aq hb h; clear hb; refine Ai ?_; refine Aa ?_; refine Ae ?_; refine Aj ?_; obtain ⟨hc4, h⟩ := Ab h; refine B6 [] [] ⟨(Q249 x1 i2), (Q251 a_g l3 x1), []⟩ [(A8 i2 x1.length)] hq ⟨hc4, trivial⟩ ?_; obtain ⟨hc5, h⟩ := Ab h; refine B6 [] [] ⟨(Q249 x1 i2), [(1, .row 26 (Sb a_g)), (4, .arr 1 53 64 (fun i_ => AV.eraseAll (fun n_ => B3 n_ [1, 4, 8]) ((E6 (fun i => eB (l3.getD i false)) ((U6 x1 i2)).toNat 0 [(.bool true)]) i_))), (8, .tok 1 3 x1.length)], []⟩ [(A8 (U6 x1 i2) 64), (64 = 64)] hq ⟨hc5, rfl, trivial⟩ ?_; refine Af (Cd (st' := ⟨(Q249 x1 i2), [(1, .row 26 (Sb a_g)), (4, .arr 1 53 64 (fun i => eB ((Dp 64 false l3 ((U6 x1 i2)).toNat true).getD i false))), (8, .tok 1 3 x1.length)], []⟩) (TmpsLe.refl _) (.same (.arr (Bc rfl (fun k_ hk_ => (congrArg (AV.eraseAll (fun n_ => B3 n_ [1, 4, 8])) ((Fc (fun _ _ => rfl) (Dy hc5) rfl) k_ hk_)).trans rfl)) (.same .nil)))) ?_; obtain ⟨hc6, h⟩ := Ab h; obtain ⟨x7, hx7, h⟩ := bind_some h; refine B6 [⟨[(4, 38000)], [], (.bool x7.1), [(38000, .arr 1 53 64 (fun i => eB (x7.2.getD i false)))], []⟩] [] ⟨[(1, (.ptr 1 0)), (4, (.vpt 4 64 0 0)), (12, (Tk x1)), (13, (.int .i64 (x1.length : Int))), (14, (.int .i64 i2)), (26, (.bool x7.1))], [(1, .row 26 (Sb a_g)), (4, .arr 1 53 64 (fun i => eB (x7.2.getD i false))), (8, .tok 1 3 x1.length)], []⟩ [(A8 (U6 x1 i2) a_g.Succ.length), (Spec Try.prog 34 [(AV.list 1 Ac (0 : Int) (a_g.Succ.getD ((U6 x1 i2)).toNat []) .none), (.clo 35 [] [(.vpt 38000 64 0 0)])] [(38000, .arr 1 53 64 (fun i => eB ((Dp 64 false l3 ((U6 x1 i2)).toNat true).getD i false)))] (.bool x7.1) [(38000, .arr 1 53 64 (fun i => eB (x7.2.getD i false)))])] hq ⟨hc6, (Ha (a_g.Succ.getD ((U6 x1 i2)).toNat []) (Dp 64 false l3 ((U6 x1 i2)).toNat true) x7 hx7), trivial⟩ ?_; refine Ak x7.1 (by kernel_rfl) (fun hb => ?_) (fun hb => ?_)
        · replace h := Aq hb h; clear hb; refine Au ⟨[(2, (.bool false))], [], []⟩ hq ?_; refine Ar ?_; refine Br ?_; refine A3 ?_; obtain rfl := OI h; exact ⟨(by intro hh; cases hh), rfl, ⟨.inl rfl, [], by kernel_rfl⟩⟩
        · replace h := Ay hb h; clear hb; refine Ai ?_; refine Am ?_; refine Aa ?_; refine Mq ⟨[(1, (.ptr 1 0)), (4, (.vpt 4 64 0 0)), (12, (Tk x1)), (13, (.int .i64 (x1.length : Int))), (14, (.int .i64 (A0 (i2 + (1 : Int)))))], [(1, .row 26 (Sb a_g)), (4, .arr 1 53 64 (fun i => eB (x7.2.getD i false))), (8, .tok 1 3 x1.length)], []⟩ hq ?_; obtain rfl := OI h; exact ⟨rfl, Le.refl _ _⟩
      · replace h := Ay hb h; clear hb; refine Bi ?_; refine A6 ?_; obtain rfl := OI h; exact ⟨(by intro hh; cases hh), rfl, F2 [] [] hq⟩
    · clear hx8; rcases x8 with _ | r10
      · rintro e st' ⟨rfl, hl9⟩; refine A1 ?_; refine Aa ?_; refine Af hl9 ?_; refine Au ⟨[(2, (.bool true))], [], []⟩ hq ?_; refine Ar ?_; obtain rfl := OI h; exact ⟨.inl rfl, [], by kernel_rfl⟩
      · rintro e st' ⟨rfl, hk⟩; refine Br ?_; refine A3 ?_; obtain rfl := OI h; exact hk
def Dv (a_g : Ao) : Option Bool :=
  ((Gk a_g).bind fun x1 => (bif (!x1) then (some false) else ((D9 a_g).bind fun x2 => ((Fo a_g.Succ x2).bind fun x3 => ((Ek x3).bind fun x4 => ((D1 x4.1).bind fun x5 => (some x5)))))))
theorem I7 (a_g : Ao) (r : Bool) (h : Dv a_g = some r) : Spec Try.prog 13 [(.agg (B2 a_g))] [] (.bool r) [] := by
  refine An (fn := Try.f13) Try.func13 rfl rfl (by kernel_rfl) (fun Γ hn hΓ => ?_); have hq : RgQ Try.prog Γ 19 [] := ⟨hn, mix, hΓ⟩; unfold Dv at h; refine Au ⟨[(1, (.ptr 1 0))], [(1, .row 26 [(AV.list 1 At [] a_g.Succ .none), (AV.list 1 At [] a_g.Pred .none)])], []⟩ hq ?_; refine Ae ?_; obtain ⟨x1, hx1, h⟩ := bind_some h; refine B6 [⟨[], [], (.bool x1), [], []⟩] [] ⟨[(1, (.ptr 1 0)), (7, (.bool (!x1)))], [(1, .row 26 [(AV.list 1 At [] a_g.Succ .none), (AV.list 1 At [] a_g.Pred .none)])], []⟩ [(Spec Try.prog 32 [(.agg (B2 a_g))] [] (.bool x1) [])] hq ⟨(Ny a_g x1 hx1), trivial⟩ ?_; refine Ak (!x1) (by kernel_rfl) (fun hb => ?_) (fun hb => ?_)
  · replace h := Aq hb h; clear hb; refine Au ⟨[(2, (.bool false))], [], []⟩ hq ?_; refine Ar ?_; refine A3 ?_; obtain rfl := OI h; exact ⟨.inl rfl, [], by kernel_rfl⟩
  · replace h := Ay hb h; clear hb; refine Ai ?_; refine Aa ?_; obtain ⟨x2, hx2, h⟩ := bind_some h; obtain ⟨x3, hx3, h⟩ := bind_some h; obtain ⟨x4, hx4, h⟩ := bind_some h; refine B6 [⟨[], [(20000, 12)], (AV.list 2 Cp ((0 : Int), (0 : Int)) x2 (.own 20000)), [(20000, .tok 2 45 x2.length)], []⟩, ⟨[], [(20000, 13)], (AV.list 1 At [] x3 (.own 20000)), [(20000, .tok 1 36 x3.length)], []⟩, ⟨[], [], (.tuple [(.agg (B2 x4.1)), (.int .i64 x4.2)]), [], []⟩] [] ⟨[(3, (.ptr 3 0))], [(3, .row 26 [(AV.list 1 At [] x4.1.Succ .none), (AV.list 1 At [] x4.1.Pred .none)])], []⟩ [(Spec Try.prog 18 [(.agg (B2 a_g))] [] (AV.list 2 Cp ((0 : Int), (0 : Int)) x2 (.own 20000)) [(20000, .tok 2 45 x2.length)]), (Spec Try.prog 33 [(AV.list 1 At [] a_g.Succ .none), (AV.list 2 Cp ((0 : Int), (0 : Int)) x2 .none)] [] (AV.list 1 At [] x3 (.own 20000)) [(20000, .tok 1 36 x3.length)]), (Spec Try.prog 10 [(AV.list 1 At [] x3 .none)] [] (.tuple [(.agg (B2 x4.1)), (.int .i64 x4.2)]) [])] hq ⟨(Jf a_g x2 hx2), (Qf a_g.Succ x2 x3 hx3), (Je x3 x4 hx4), trivial⟩ ?_; obtain ⟨x5, hx5, h⟩ := bind_some h; refine B6 [⟨[], [], (.bool x5), [], []⟩] [] ⟨[(2, (.bool x5))], [], []⟩ [(Spec Try.prog 16 [(.agg (B2 x4.1))] [] (.bool x5) [])] hq ⟨(Hu x4.1 x5 hx5), trivial⟩ ?_; refine Ar ?_; obtain rfl := OI h; exact ⟨.inl rfl, [], by kernel_rfl⟩
def Q260 (x8 : Int) := ((x8 : Int) == (1 : Int))
def Q261 (x9 : Int) := ((x9 : Int) == (0 : Int))
def Q264 (x1 : (Ao × Int)) := (((x1.2 : Int) == (0 : Int)) == true)
def Q265 := ([(1 : Int), (2 : Int)] : List (Int))
def Q262 : AV := (AV.list 1 Ac (0 : Int) ([(1 : Int)] : List (Int)) .exact)
def Zx (x1 : (Ao × Int)) (x2 : List (A2)) := (bif (bif ((x1.2 : Int) == (0 : Int)) then (((x2.length : Int) : Int) == (1 : Int)) else false) then (((x2.getD ((0 : Int)).toNat (default : A2)).Head : Int) == (1 : Int)) else false)
def Tm (x1 : (Ao × Int)) (x2 : List (A2)) (x6 : Bool) (x3 : List ((Int × Int))) := (bif (bif (bif (Zx x1 x2) then x6 else false) then (((x3.length : Int) : Int) == (1 : Int)) else false) then ((((x3.getD ((0 : Int)).toNat ((0 : Int), (0 : Int))).1 : Int) == (2 : Int)) && ((((x3.getD ((0 : Int)).toNat ((0 : Int), (0 : Int))).2 : Int) == (1 : Int)) && true)) else false)
def Q268 (x1 : (Ao × Int)) (x2 : List (A2)) (x6 : Bool) (x3 : List ((Int × Int))) (x8 : Int) := ((bif (Tm x1 x2 x6 x3) then (Q260 x8) else false) == true)
def Q263 (x1 : (Ao × Int)) : List AV := [(AV.list 1 At [] x1.1.Succ .none), (AV.list 1 At [] x1.1.Pred .none)]
def Pb (x1 : (Ao × Int)) (x2 : List (A2)) (x6 : Bool) (x3 : List ((Int × Int))) (x8 : Int) (x9 : Int) := (bif (bif (Tm x1 x2 x6 x3) then (Q260 x8) else false) then (Q261 x9) else false)
def Tj (x1 : (Ao × Int)) (x2 : List (A2)) := ((bif ((x1.2 : Int) == (0 : Int)) then (((x2.length : Int) : Int) == (1 : Int)) else false) == true)
def Q259 := ([([(1 : Int)] : List (Int)), ([(2 : Int), (3 : Int)] : List (Int)), ([(1 : Int)] : List (Int)), ([] : List Int)] : List (List (Int)))
def N8 (x1 : (Ao × Int)) (x2 : List (A2)) := ((Zx x1 x2) == true)
def Q257 (x1 : (Ao × Int)) (x2 : List (A2)) (x6 : Bool) := ((bif (Zx x1 x2) then x6 else false) == true)
def S8 (x1 : (Ao × Int)) (x2 : List (A2)) (x6 : Bool) (x3 : List ((Int × Int))) := ((bif (bif (Zx x1 x2) then x6 else false) then (((x3.length : Int) : Int) == (1 : Int)) else false) == true)
def Dq  : Option Bool :=
  ((Ek ([([(1 : Int)] : List (Int)), ([(2 : Int), (3 : Int)] : List (Int)), ([(1 : Int)] : List (Int)), ([] : List Int)] : List (List (Int)))).bind fun x1 => ((Fm x1.1).bind fun x2 => ((D9 x1.1).bind fun x3 => (Cl (((bif ((x1.2 : Int) == (0 : Int)) then (((x2.length : Int) : Int) == (1 : Int)) else false) == true) = true → (A8 (0 : Int) x2.length)) (Cl (((bif (bif ((x1.2 : Int) == (0 : Int)) then (((x2.length : Int) : Int) == (1 : Int)) else false) then (((x2.getD ((0 : Int)).toNat (default : A2)).Head : Int) == (1 : Int)) else false) == true) = true → (A8 (0 : Int) x2.length)) ((bif ((bif (bif ((x1.2 : Int) == (0 : Int)) then (((x2.length : Int) : Int) == (1 : Int)) else false) then (((x2.getD ((0 : Int)).toNat (default : A2)).Head : Int) == (1 : Int)) else false) == true) then Cr ((x2.getD ((0 : Int)).toNat (default : A2)).Body) ([(1 : Int), (2 : Int)] : List (Int)) else some false).bind fun x6 => (Cl (((bif (bif (bif (bif ((x1.2 : Int) == (0 : Int)) then (((x2.length : Int) : Int) == (1 : Int)) else false) then (((x2.getD ((0 : Int)).toNat (default : A2)).Head : Int) == (1 : Int)) else false) then x6 else false) then (((x3.length : Int) : Int) == (1 : Int)) else false) == true) = true → (A8 (0 : Int) x3.length)) ((bif ((bif (bif (bif (bif (bif ((x1.2 : Int) == (0 : Int)) then (((x2.length : Int) : Int) == (1 : Int)) else false) then (((x2.getD ((0 : Int)).toNat (default : A2)).Head : Int) == (1 : Int)) else false) then x6 else false) then (((x3.length : Int) : Int) == (1 : Int)) else false) then ((((x3.getD ((0 : Int)).toNat ((0 : Int), (0 : Int))).1 : Int) == (2 : Int)) && ((((x3.getD ((0 : Int)).toNat ((0 : Int), (0 : Int))).2 : Int) == (1 : Int)) && true)) else false) == true) then D8 x1.1 (2 : Int) else some (0 : Int)).bind fun x8 => ((bif ((bif (bif (bif (bif (bif (bif ((x1.2 : Int) == (0 : Int)) then (((x2.length : Int) : Int) == (1 : Int)) else false) then (((x2.getD ((0 : Int)).toNat (default : A2)).Head : Int) == (1 : Int)) else false) then x6 else false) then (((x3.length : Int) : Int) == (1 : Int)) else false) then ((((x3.getD ((0 : Int)).toNat ((0 : Int), (0 : Int))).1 : Int) == (2 : Int)) && ((((x3.getD ((0 : Int)).toNat ((0 : Int), (0 : Int))).2 : Int) == (1 : Int)) && true)) else false) then ((x8 : Int) == (1 : Int)) else false) == true) then D8 x1.1 (3 : Int) else some (0 : Int)).bind fun x9 => ((bif ((bif (bif (bif (bif (bif (bif (bif ((x1.2 : Int) == (0 : Int)) then (((x2.length : Int) : Int) == (1 : Int)) else false) then (((x2.getD ((0 : Int)).toNat (default : A2)).Head : Int) == (1 : Int)) else false) then x6 else false) then (((x3.length : Int) : Int) == (1 : Int)) else false) then ((((x3.getD ((0 : Int)).toNat ((0 : Int), (0 : Int))).1 : Int) == (2 : Int)) && ((((x3.getD ((0 : Int)).toNat ((0 : Int), (0 : Int))).2 : Int) == (1 : Int)) && true)) else false) then ((x8 : Int) == (1 : Int)) else false) then ((x9 : Int) == (0 : Int)) else false) == true) then Dv x1.1 else some false).bind fun x10 => ((bif ((bif (bif (bif (bif (bif (bif (bif (bif ((x1.2 : Int) == (0 : Int)) then (((x2.length : Int) : Int) == (1 : Int)) else false) then (((x2.getD ((0 : Int)).toNat (default : A2)).Head : Int) == (1 : Int)) else false) then x6 else false) then (((x3.length : Int) : Int) == (1 : Int)) else false) then ((((x3.getD ((0 : Int)).toNat ((0 : Int), (0 : Int))).1 : Int) == (2 : Int)) && ((((x3.getD ((0 : Int)).toNat ((0 : Int), (0 : Int))).2 : Int) == (1 : Int)) && true)) else false) then ((x8 : Int) == (1 : Int)) else false) then ((x9 : Int) == (0 : Int)) else false) then x10 else false) == true) then D1 x1.1 else some false).bind fun x11 => (some (bif (bif (bif (bif (bif (bif (bif (bif (bif ((x1.2 : Int) == (0 : Int)) then (((x2.length : Int) : Int) == (1 : Int)) else false) then (((x2.getD ((0 : Int)).toNat (default : A2)).Head : Int) == (1 : Int)) else false) then x6 else false) then (((x3.length : Int) : Int) == (1 : Int)) else false) then ((((x3.getD ((0 : Int)).toNat ((0 : Int), (0 : Int))).1 : Int) == (2 : Int)) && ((((x3.getD ((0 : Int)).toNat ((0 : Int), (0 : Int))).2 : Int) == (1 : Int)) && true)) else false) then ((x8 : Int) == (1 : Int)) else false) then ((x9 : Int) == (0 : Int)) else false) then x10 else false) then (!x11) else false)))))))))))))
theorem Kb  (r : Bool) (h : Dq = some r) : Spec Try.prog 8 [] [] (.bool r) [] := by
  refine An (fn := Try.f8) Try.func8 rfl rfl (by kernel_rfl) (fun Γ hn hΓ => ?_); have hq : RgQ Try.prog Γ 70 [] := ⟨hn, mix, hΓ⟩; unfold Dq at h; refine Au ⟨[], [], []⟩ hq ?_; obtain ⟨x1, hx1, h⟩ := bind_some h; refine B6 [⟨[], [], (.tuple [(.agg (B2 x1.1)), (.int .i64 x1.2)]), [], []⟩] [(6, Q262), (7, (AV.list 1 Ac (0 : Int) ([(2 : Int), (3 : Int)] : List (Int)) .exact)), (8, Q262), (9, (AV.list 1 At [] Q259 .exact))] ⟨[(1, (.ptr 1 0)), (2, (.int .i64 x1.2))], [(1, .row 26 (Q263 x1))], []⟩ [(AVle (.slice 1 1 (fun i => ([[(.int .i64 (1 : Int))]] : List (List AV)).getD i []) .exact) Q262), (AVle (.slice 1 2 (fun i => ([[(.int .i64 (2 : Int))], [(.int .i64 (3 : Int))]] : List (List AV)).getD i []) .exact) (AV.list 1 Ac (0 : Int) ([(2 : Int), (3 : Int)] : List (Int)) .exact)), (AVle (.slice 1 1 (fun i => ([[(.int .i64 (1 : Int))]] : List (List AV)).getD i []) .exact) Q262), (AVle (.slice 1 4 (fun i => ([[(AV.list 1 Ac (0 : Int) ([(1 : Int)] : List (Int)) .none)], [(AV.list 1 Ac (0 : Int) ([(2 : Int), (3 : Int)] : List (Int)) .none)], [(AV.list 1 Ac (0 : Int) ([(1 : Int)] : List (Int)) .none)], [(.slice 0 0 (fun _ => []) .none)]] : List (List AV)).getD i []) .exact) (AV.list 1 At [] Q259 .exact)), (Spec Try.prog 10 [(AV.list 1 At [] Q259 .none)] [] (.tuple [(.agg (B2 x1.1)), (.int .i64 x1.2)]) [])] hq ⟨(E5 rfl (fun i hi => En (e := Ac) (d := (0 : Int)) ([(1 : Int)] : List (Int)) i hi)), (E5 rfl (fun i hi => En (e := Ac) (d := (0 : Int)) ([(2 : Int), (3 : Int)] : List (Int)) i hi)), (E5 rfl (fun i hi => En (e := Ac) (d := (0 : Int)) ([(1 : Int)] : List (Int)) i hi)), (av_litL (e := At) (d := []) rfl (Ov (.cons (AVle.refl _) .nil) (Ov (.cons (AVle.refl _) .nil) (Ov (.cons (AVle.refl _) .nil) (Ov (.cons av_nil0 .nil) (lit_nil rfl))))) (fun _ => rfl)), (Je Q259 x1 hx1), trivial⟩ ?_; obtain ⟨x2, hx2, h⟩ := bind_some h; refine B6 [⟨[], [(20000, 14)], (AV.list 2 Dt (default : A2) x2 (.own 20000)), [(20000, .tok 2 38 x2.length)], []⟩] [] ⟨[(1, (.ptr 1 0)), (2, (.int .i64 x1.2)), (3, (AV.list 2 Dt (default : A2) x2 (.own 14)))], [(1, .row 26 (Q263 x1)), (14, .tok 2 38 x2.length)], []⟩ [(Spec Try.prog 12 [(.agg (B2 x1.1))] [] (AV.list 2 Dt (default : A2) x2 (.own 20000)) [(20000, .tok 2 38 x2.length)])] hq ⟨(Lb x1.1 x2 hx2), trivial⟩ ?_; obtain ⟨x3, hx3, h⟩ := bind_some h; refine B6 [⟨[], [(20000, 16)], (AV.list 2 Cp ((0 : Int), (0 : Int)) x3 (.own 20000)), [(20000, .tok 2 45 x3.length)], []⟩] [] ⟨[(1, (.ptr 1 0)), (2, (.int .i64 x1.2)), (3, (AV.list 2 Dt (default : A2) x2 (.own 14))), (4, (AV.list 2 Cp ((0 : Int), (0 : Int)) x3 (.own 16)))], [(1, .row 26 (Q263 x1)), (14, .tok 2 38 x2.length), (16, .tok 2 45 x3.length)], []⟩ [(Spec Try.prog 18 [(.agg (B2 x1.1))] [] (AV.list 2 Cp ((0 : Int), (0 : Int)) x3 (.own 20000)) [(20000, .tok 2 45 x3.length)])] hq ⟨(Jf x1.1 x3 hx3), trivial⟩ ?_; obtain ⟨hc4, h⟩ := Ab h; obtain ⟨hc5, h⟩ := Ab h; obtain ⟨x6, hx6, h⟩ := bind_some h; obtain ⟨hc7, h⟩ := Ab h; obtain ⟨x8, hx8, h⟩ := bind_some h; obtain ⟨x9, hx9, h⟩ := bind_some h; obtain ⟨x10, hx10, h⟩ := bind_some h; obtain ⟨x11, hx11, h⟩ := bind_some h; refine B6 [⟨[], [], (.bool x6), [], []⟩, ⟨[], [], (.int .i64 x8), [], []⟩, ⟨[], [], (.int .i64 x9), [], []⟩, ⟨[], [], (.bool x10), [], []⟩, ⟨[], [], (.bool x11), [], []⟩] [(36, (AV.list 1 Ac (0 : Int) Q265 .exact))] ⟨[(0, (.bool (bif (bif (Pb x1 x2 x6 x3 x8 x9) then x10 else false) then (!x11) else false)))], [], []⟩ [((Q264 x1) = true → (Q264 x1) = true), ((Q264 x1) = true → (Q264 x1) = true), (((x1.2 : Int) == (0 : Int)) = true → (Q264 x1) = true), ((Tj x1 x2) = true → (Tj x1 x2) = true), ((Tj x1 x2) = true → (A8 (0 : Int) x2.length)), ((Tj x1 x2) = true → (Tj x1 x2) = true), ((Tj x1 x2) = true → (Tj x1 x2) = true), ((Tj x1 x2) = true → (Tj x1 x2) = true), ((bif ((x1.2 : Int) == (0 : Int)) then (((x2.length : Int) : Int) == (1 : Int)) else false) = true → (Tj x1 x2) = true), ((N8 x1 x2) = true → (N8 x1 x2) = true), ((N8 x1 x2) = true → (A8 (0 : Int) x2.length)), ((N8 x1 x2) = true → (N8 x1 x2) = true), ((N8 x1 x2) = true → (N8 x1 x2) = true), ((N8 x1 x2) = true → (AVle (.slice 1 2 (fun i => ([[(.int .i64 (1 : Int))], [(.int .i64 (2 : Int))]] : List (List AV)).getD i []) .exact) (AV.list 1 Ac (0 : Int) Q265 .exact))), ((N8 x1 x2) = true → (N8 x1 x2) = true), ((N8 x1 x2) = true → (N8 x1 x2) = true), ((N8 x1 x2) = true → (Spec Try.prog 21 [(AV.list 1 Ac (0 : Int) (x2.getD ((0 : Int)).toNat (default : A2)).Body .none), (AV.list 1 Ac (0 : Int) Q265 .none)] [] (.bool x6) [])), ((Zx x1 x2) = true → (N8 x1 x2) = true), ((Q257 x1 x2 x6) = true → (Q257 x1 x2 x6) = true), ((Q257 x1 x2 x6) = true → (Q257 x1 x2 x6) = true), ((bif (Zx x1 x2) then x6 else false) = true → (Q257 x1 x2 x6) = true), ((S8 x1 x2 x6 x3) = true → (S8 x1 x2 x6 x3) = true), ((S8 x1 x2 x6 x3) = true → (A8 (0 : Int) x3.length)), ((S8 x1 x2 x6 x3) = true → (S8 x1 x2 x6 x3) = true), ((S8 x1 x2 x6 x3) = true → (S8 x1 x2 x6 x3) = true), ((S8 x1 x2 x6 x3) = true → (S8 x1 x2 x6 x3) = true), ((bif (bif (Zx x1 x2) then x6 else false) then (((x3.length : Int) : Int) == (1 : Int)) else false) = true → (S8 x1 x2 x6 x3) = true), (((Tm x1 x2 x6 x3) == true) = true → ((Tm x1 x2 x6 x3) == true) = true), (((Tm x1 x2 x6 x3) == true) = true → (Spec Try.prog 19 [(.agg (B2 x1.1)), (.int .i64 (2 : Int))] [] (.int .i64 x8) [])), (((Tm x1 x2 x6 x3) == true) = true → ((Tm x1 x2 x6 x3) == true) = true), ((Tm x1 x2 x6 x3) = true → ((Tm x1 x2 x6 x3) == true) = true), ((Q268 x1 x2 x6 x3 x8) = true → (Q268 x1 x2 x6 x3 x8) = true), ((Q268 x1 x2 x6 x3 x8) = true → (Spec Try.prog 19 [(.agg (B2 x1.1)), (.int .i64 (3 : Int))] [] (.int .i64 x9) [])), ((Q268 x1 x2 x6 x3 x8) = true → (Q268 x1 x2 x6 x3 x8) = true), ((bif (Tm x1 x2 x6 x3) then (Q260 x8) else false) = true → (Q268 x1 x2 x6 x3 x8) = true), (((Pb x1 x2 x6 x3 x8 x9) == true) = true → ((Pb x1 x2 x6 x3 x8 x9) == true) = true), (((Pb x1 x2 x6 x3 x8 x9) == true) = true → (Spec Try.prog 13 [(.agg (B2 x1.1))] [] (.bool x10) [])), ((Pb x1 x2 x6 x3 x8 x9) = true → ((Pb x1 x2 x6 x3 x8 x9) == true) = true), (((bif (Pb x1 x2 x6 x3 x8 x9) then x10 else false) == true) = true → ((bif (Pb x1 x2 x6 x3 x8 x9) then x10 else false) == true) = true), (((bif (Pb x1 x2 x6 x3 x8 x9) then x10 else false) == true) = true → (Spec Try.prog 16 [(.agg (B2 x1.1))] [] (.bool x11) [])), (((bif (Pb x1 x2 x6 x3 x8 x9) then x10 else false) == true) = true → ((bif (Pb x1 x2 x6 x3 x8 x9) then x10 else false) == true) = true), ((bif (Pb x1 x2 x6 x3 x8 x9) then x10 else false) = true → ((bif (Pb x1 x2 x6 x3 x8 x9) then x10 else false) == true) = true)] hq ⟨(fun hg => hg), (fun hg => hg), gT, (fun hg => hg), (fun hg => (hc4 hg)), (fun hg => hg), (fun hg => hg), (fun hg => hg), gT, (fun hg => hg), (fun hg => (hc5 hg)), (fun hg => hg), (fun hg => hg), (fun hg => (E5 rfl (fun i hi => En (e := Ac) (d := (0 : Int)) Q265 i hi))), (fun hg => hg), (fun hg => hg), (fun hg => (K3 ((x2.getD ((0 : Int)).toNat (default : A2)).Body) Q265 x6 (Aq hg hx6))), gT, (fun hg => hg), (fun hg => hg), gT, (fun hg => hg), (fun hg => (hc7 hg)), (fun hg => hg), (fun hg => hg), (fun hg => hg), gT, (fun hg => hg), (fun hg => (Jc x1.1 (2 : Int) x8 (Aq hg hx8))), (fun hg => hg), gT, (fun hg => hg), (fun hg => (Jc x1.1 (3 : Int) x9 (Aq hg hx9))), (fun hg => hg), gT, (fun hg => hg), (fun hg => (I7 x1.1 x10 (Aq hg hx10))), gT, (fun hg => hg), (fun hg => (Hu x1.1 x11 (Aq hg hx11))), (fun hg => hg), gT, trivial⟩ ?_; refine Ar ?_; obtain rfl := OI h; exact ⟨.inl rfl, [], by kernel_rfl⟩
def Bf (a_succ : List (List (Int))) : Int → Option (LR Int (Unit ⊕ Bool)) :=
  fun (i1 : Int) => (bif (decide ((i1 : Int) < (a_succ.length : Int))) then (Cl (A8 i1 a_succ.length) (bif (bif (decide (((100 : Int) : Int) < ((a_succ.getD (i1).toNat []).length : Int))) then true else (decide (((100 : Int) : Int) < i1))) then (some (.done (.inr false))) else (some (.next (A0 (i1 + (1 : Int))))))) else (some (.done (.inl ()))))
def Zt (a_succ : List (List (Int))) : AV := (AV.list 1 At [] a_succ .none)
def Q269 (a_succ : List (List (Int))) (i1 : Int) := (decide (((100 : Int) : Int) < ((a_succ.getD (i1).toNat []).length : Int)))
def C5 (a_succ : List (List (Int))) : Option Bool :=
  ((Aw (S := Int) (X := (Unit ⊕ Bool)) (Bf a_succ) (0 : Int)).bind (fun x3 => (match x3 with | (.inl _) => (some true) | (.inr r5) => (some r5))))
theorem Km (a_succ : List (List (Int))) (r : Bool) (h : C5 a_succ = some r) : Spec Try.prog 9 [(AV.list 1 At [] a_succ .none)] [] (.bool r) [] := by
  refine An (fn := Try.f9) Try.func9 rfl rfl (by kernel_rfl) (fun Γ hn hΓ => ?_); have hq : RgQ Try.prog Γ 20 [] := ⟨hn, mix, hΓ⟩; unfold C5 at h; refine Au ⟨[(0, (Zt a_succ))], [], []⟩ hq ?_; refine Ae ?_; refine Au ⟨[(0, (Zt a_succ)), (3, (.int .i64 (0 : Int)))], [], []⟩ hq ?_; refine Aj ?_; refine Af (st' := (fun (i1 : Int) => (⟨[(0, (Zt a_succ)), (3, (.int .i64 i1))], [], []⟩ : St)) (0 : Int)) (Le.refl _ _) ?_; obtain ⟨x3, hx3, h⟩ := bind_some h; refine Bh (fun (i1 : Int) => (⟨[(0, (Zt a_succ)), (3, (.int .i64 i1))], [], []⟩ : St)) _ (fun (x_ : (Unit ⊕ Bool)) (e : Exit) (st : St) => match x_ with | (.inl _) => e = (.exit 0) ∧ Le Γ st (⟨[], [], []⟩ : St) | (.inr r_) => e = .ret ∧ La Try.prog Try.f9.results.toList [] (.bool r_) [] e st) ?_ hx3 ?_
  · intro i1 y h; unfold Bf at h; refine Ae ?_; refine Au ⟨[(0, (Zt a_succ)), (3, (.int .i64 i1)), (7, (.bool (decide ((i1 : Int) < (a_succ.length : Int)))))], [], []⟩ hq ?_; refine Ak (decide ((i1 : Int) < (a_succ.length : Int))) (by kernel_rfl) (fun hb => ?_) (fun hb => ?_)
    · replace h := Aq hb h; clear hb; refine Ai ?_; refine Aa ?_; refine Ae ?_; refine Aj ?_; obtain ⟨hc2, h⟩ := Ab h; refine B6 [] [] ⟨[(0, (Zt a_succ)), (3, (.int .i64 i1)), (19, (.bool (bif (Q269 a_succ i1) then true else (decide (((100 : Int) : Int) < i1)))))], [], []⟩ [(A8 i1 a_succ.length), (((Q269 a_succ i1) == false) = true → ((Q269 a_succ i1) == false) = true), ((Q269 a_succ i1) = false → ((Q269 a_succ i1) == false) = true)] hq ⟨hc2, (fun hg => hg), gF, trivial⟩ ?_; refine Ak (bif (Q269 a_succ i1) then true else (decide (((100 : Int) : Int) < i1))) (by kernel_rfl) (fun hb => ?_) (fun hb => ?_)
      · replace h := Aq hb h; clear hb; refine Au ⟨[(2, (.bool false))], [], []⟩ hq ?_; refine Ar ?_; refine Br ?_; refine A3 ?_; obtain rfl := OI h; exact ⟨(by intro hh; cases hh), rfl, ⟨.inl rfl, [], by kernel_rfl⟩⟩
      · replace h := Ay hb h; clear hb; refine Ai ?_; refine Am ?_; refine Aa ?_; refine Mq ⟨[(0, (Zt a_succ)), (3, (.int .i64 (A0 (i1 + (1 : Int)))))], [], []⟩ hq ?_; obtain rfl := OI h; exact ⟨rfl, Le.refl _ _⟩
    · replace h := Ay hb h; clear hb; refine Bi ?_; refine A6 ?_; obtain rfl := OI h; exact ⟨(by intro hh; cases hh), rfl, F2 [] [] hq⟩
  · clear hx3; rcases x3 with _ | r5
    · rintro e st' ⟨rfl, hl4⟩; refine A1 ?_; refine Aa ?_; refine Af hl4 ?_; refine Au ⟨[(2, (.bool true))], [], []⟩ hq ?_; refine Ar ?_; obtain rfl := OI h; exact ⟨.inl rfl, [], by kernel_rfl⟩
    · rintro e st' ⟨rfl, hk⟩; refine Br ?_; refine A3 ?_; obtain rfl := OI h; exact hk
def Bm (a_l : List (Int)) (a_x : Int) : Int → Option (LR Int (Unit ⊕ Bool)) :=
  fun (i1 : Int) => (bif (decide ((i1 : Int) < (a_l.length : Int))) then (Cl (A8 i1 a_l.length) (bif (((a_l.getD (i1).toNat (0 : Int)) : Int) == a_x) then (some (.done (.inr true))) else (some (.next (A0 (i1 + (1 : Int))))))) else (some (.done (.inl ()))))
def Zo (a_l : List (Int)) : AV := (AV.list 1 Ac (0 : Int) a_l .none)
def Dl (a_l : List (Int)) (a_x : Int) : Option Bool :=
  ((Aw (S := Int) (X := (Unit ⊕ Bool)) (Bm a_l a_x) (0 : Int)).bind (fun x3 => (match x3 with | (.inl _) => (some false) | (.inr r5) => (some r5))))
theorem Lv (a_l : List (Int)) (a_x : Int) (r : Bool) (h : Dl a_l a_x = some r) : Spec Try.prog 14 [(AV.list 1 Ac (0 : Int) a_l .none), (.int .i64 a_x)] [] (.bool r) [] := by
  refine An (fn := Try.f14) Try.func14 rfl rfl (by kernel_rfl) (fun Γ hn hΓ => ?_); have hq : RgQ Try.prog Γ 18 [] := ⟨hn, mix, hΓ⟩; unfold Dl at h; refine Au ⟨[(0, (Zo a_l)), (1, (.int .i64 a_x))], [], []⟩ hq ?_; refine Ae ?_; refine Au ⟨[(0, (Zo a_l)), (1, (.int .i64 a_x)), (5, (.int .i64 (0 : Int)))], [], []⟩ hq ?_; refine Aj ?_; refine Af (st' := (fun (i1 : Int) => (⟨[(0, (Zo a_l)), (1, (.int .i64 a_x)), (5, (.int .i64 i1))], [], []⟩ : St)) (0 : Int)) (Le.refl _ _) ?_; obtain ⟨x3, hx3, h⟩ := bind_some h; refine Bh (fun (i1 : Int) => (⟨[(0, (Zo a_l)), (1, (.int .i64 a_x)), (5, (.int .i64 i1))], [], []⟩ : St)) _ (fun (x_ : (Unit ⊕ Bool)) (e : Exit) (st : St) => match x_ with | (.inl _) => e = (.exit 0) ∧ Le Γ st (⟨[], [], []⟩ : St) | (.inr r_) => e = .ret ∧ La Try.prog Try.f14.results.toList [] (.bool r_) [] e st) ?_ hx3 ?_
  · intro i1 y h; unfold Bm at h; refine Ae ?_; refine Au ⟨[(0, (Zo a_l)), (1, (.int .i64 a_x)), (5, (.int .i64 i1)), (9, (.bool (decide ((i1 : Int) < (a_l.length : Int)))))], [], []⟩ hq ?_; refine Ak (decide ((i1 : Int) < (a_l.length : Int))) (by kernel_rfl) (fun hb => ?_) (fun hb => ?_)
    · replace h := Aq hb h; clear hb; refine Ai ?_; refine Aa ?_; refine Ae ?_; refine Aj ?_; obtain ⟨hc2, h⟩ := Ab h; refine B6 [] [] ⟨[(0, (Zo a_l)), (1, (.int .i64 a_x)), (5, (.int .i64 i1)), (17, (.bool (((a_l.getD (i1).toNat (0 : Int)) : Int) == a_x)))], [], []⟩ [(A8 i1 a_l.length)] hq ⟨hc2, trivial⟩ ?_; refine Ak (((a_l.getD (i1).toNat (0 : Int)) : Int) == a_x) (by kernel_rfl) (fun hb => ?_) (fun hb => ?_)
      · replace h := Aq hb h; clear hb; refine Au ⟨[(4, (.bool true))], [], []⟩ hq ?_; refine Ar ?_; refine Br ?_; refine A3 ?_; obtain rfl := OI h; exact ⟨(by intro hh; cases hh), rfl, ⟨.inl rfl, [], by kernel_rfl⟩⟩
      · replace h := Ay hb h; clear hb; refine Ai ?_; refine Am ?_; refine Aa ?_; refine Mq ⟨[(0, (Zo a_l)), (1, (.int .i64 a_x)), (5, (.int .i64 (A0 (i1 + (1 : Int)))))], [], []⟩ hq ?_; obtain rfl := OI h; exact ⟨rfl, Le.refl _ _⟩
    · replace h := Ay hb h; clear hb; refine Bi ?_; refine A6 ?_; obtain rfl := OI h; exact ⟨(by intro hh; cases hh), rfl, F2 [] [] hq⟩
  · clear hx3; rcases x3 with _ | r5
    · rintro e st' ⟨rfl, hl4⟩; refine A1 ?_; refine Aa ?_; refine Af hl4 ?_; refine Au ⟨[(4, (.bool false))], [], []⟩ hq ?_; refine Ar ?_; obtain rfl := OI h; exact ⟨.inl rfl, [], by kernel_rfl⟩
    · rintro e st' ⟨rfl, hk⟩; refine Br ?_; refine A3 ?_; obtain rfl := OI h; exact hk
end
end Go.Proofs.Ytjpacggpipflcaa

namespace Go.Proofs.Ytjpacggpipflcaa
noncomputable section
open Go Go.RowKit
set_option linter.unusedVariables false
set_option maxRecDepth 100000
set_option maxHeartbeats 2000000
def Bk (a_n : Int) : (Int × List (List (Int))) → Option (LR (Int × List (List (Int))) (List (List (Int)))) :=
  fun ((i4, l5) : (Int × List (List (Int)))) => (bif (decide (((A0 (i4 + (1 : Int))) : Int) < (A0 ((1 : Int) + (Int.tmod (A0 a_n) (60 : Int)))))) then (Cl (A8 i4 l5.length) (some (.next ((A0 (i4 + (1 : Int))), (l5.set (i4).toNat ([(A0 (i4 + (1 : Int)))] : List (Int))))))) else (some (.done l5)))
def Bl (a_n : Int) (a_p1 : Int) (x11 : (Ao × Int)) (x12 : List (A2)) : Int → Option (LR Int (Unit ⊕ Bool)) :=
  fun (i16 : Int) => (bif (decide ((i16 : Int) < (A0 ((1 : Int) + (Int.tmod (A0 a_n) (60 : Int)))))) then (Option.bind (α := Int) (bif (decide (((Int.tmod (A0 a_p1) (A0 ((1 : Int) + (Int.tmod (A0 a_n) (60 : Int))))) : Int) ≤ i16)) then (some ((1 : Int))) else (some ((0 : Int)))) (fun x18 => (((D8 x11.1 i16).bind fun x20 => (Cl ((((x20 : Int) != x18) == false) = true → (A8 (0 : Int) x12.length)) ((bif (((x20 : Int) != x18) == false) then Dl ((x12.getD ((0 : Int)).toNat (default : A2)).Body) i16 else some false).bind fun x22 => (bif (bif ((x20 : Int) != x18) then true else (x22 != (decide (((Int.tmod (A0 a_p1) (A0 ((1 : Int) + (Int.tmod (A0 a_n) (60 : Int))))) : Int) ≤ i16)))) then (some (.done (.inr false))) else (some (.next (A0 (i16 + (1 : Int)))))))))))) else (some (.done (.inl ()))))
def Gm (a_n : Int) := (A0 ((1 : Int) + (Int.tmod (A0 a_n) (60 : Int))))
def G2 (a_n : Int) : AV := (.int .i64 (Gm a_n))
def Jm (x20 : Int) (x18 : Int) := (((x20 : Int) != x18) == false)
def Oi (x11 : (Ao × Int)) (x12 : List (A2)) := (bif ((x11.2 : Int) != (0 : Int)) then true else (((x12.length : Int) : Int) != (1 : Int)))
def Q410 (x12 : List (A2)) := (x12.getD ((0 : Int)).toNat (default : A2))
def Q416 (x11 : (Ao × Int)) (x12 : List (A2)) (a_p1 : Int) (a_n : Int) := (bif (Oi x11 x12) then true else (((Q410 x12).Head : Int) != (Int.tmod (A0 a_p1) (Gm a_n))))
def K4 (x11 : (Ao × Int)) (x12 : List (A2)) (a_p1 : Int) (a_n : Int) := ((Q416 x11 x12 a_p1 a_n) == false)
def Tf (i4 : Int) := ([(A0 (i4 + (1 : Int)))] : List (Int))
def Q415 (x11 : (Ao × Int)) := (((x11.2 : Int) != (0 : Int)) == false)
def G1 (a_p1 : Int) (a_n : Int) : AV := (.int .i64 (Int.tmod (A0 a_p1) (Gm a_n)))
def Qb (x12 : List (A2)) : AV := (AV.list 2 Dt (default : A2) x12 (.own 50))
def Yq (a_n : Int) := (List.replicate ((Gm a_n)).toNat ([] : List (Int)))
def Q419 (x12 : List (A2)) (a_n : Int) (a_p1 : Int) := (((((Q410 x12).Body).length : Int) : Int) != (A0 ((Gm a_n) - (Int.tmod (A0 a_p1) (Gm a_n)))))
def V3 (x11 : (Ao × Int)) (x12 : List (A2)) (a_p1 : Int) (a_n : Int) := (bif (Q416 x11 x12 a_p1 a_n) then true else (Q419 x12 a_n a_p1))
def Q423 (x11 : (Ao × Int)) : List AV := [(AV.list 1 At [] x11.1.Succ .none), (AV.list 1 At [] x11.1.Pred .none)]
def Q422 (a_p1 : Int) (a_n : Int) : AV := (AV.list 1 Ac (0 : Int) ([(Int.tmod (A0 a_p1) (Gm a_n))] : List (Int)) .none)
def Q426 (a_n : Int) (a_p1 : Int) (l5 : List (List (Int))) (i4 : Int) : List (Nat × AV) := [(5, (G2 a_n)), (6, (G1 a_p1 a_n)), (7, (.vsl 25 l5.length)), (8, (.int .i64 i4))]
def M0 (x8 : List (List (Int))) (a_n : Int) (a_p1 : Int) := (x8.set ((A0 ((Gm a_n) - (1 : Int)))).toNat ([(Int.tmod (A0 a_p1) (Gm a_n))] : List (Int)))
def R0 (x11 : (Ao × Int)) (x12 : List (A2)) : List (Nat × Own) := [(9, .row 26 (Q423 x11)), (50, .tok 2 38 x12.length)]
def Dz (a_n : Int) (a_p1 : Int) : Option Bool :=
  ((Dq).bind fun x1 => (bif (!x1) then (some false) else (Cl ((A0 ((1 : Int) + (Int.tmod (A0 a_n) (60 : Int)))) ≠ 0) (Cl (0 ≤ (A0 ((1 : Int) + (Int.tmod (A0 a_n) (60 : Int)))) ∧ (A0 ((1 : Int) + (Int.tmod (A0 a_n) (60 : Int)))) ≤ (A0 ((1 : Int) + (Int.tmod (A0 a_n) (60 : Int)))) ∧ (A0 ((1 : Int) + (Int.tmod (A0 a_n) (60 : Int)))) ≤ (room : Int)) ((Aw (S := (Int × List (List (Int)))) (X := List (List (Int))) (Bk a_n) ((0 : Int), (List.replicate ((A0 ((1 : Int) + (Int.tmod (A0 a_n) (60 : Int))))).toNat ([] : List (Int))))).bind (fun x8 => ((Cl (A8 (A0 ((A0 ((1 : Int) + (Int.tmod (A0 a_n) (60 : Int)))) - (1 : Int))) x8.length) ((Ek (x8.set ((A0 ((A0 ((1 : Int) + (Int.tmod (A0 a_n) (60 : Int)))) - (1 : Int)))).toNat ([(Int.tmod (A0 a_p1) (A0 ((1 : Int) + (Int.tmod (A0 a_n) (60 : Int)))))] : List (Int)))).bind fun x11 => ((Fm x11.1).bind fun x12 => (Cl (((bif ((x11.2 : Int) != (0 : Int)) then true else (((x12.length : Int) : Int) != (1 : Int))) == false) = true → (A8 (0 : Int) x12.length)) (Cl (((bif (bif ((x11.2 : Int) != (0 : Int)) then true else (((x12.length : Int) : Int) != (1 : Int))) then true else (((x12.getD ((0 : Int)).toNat (default : A2)).Head : Int) != (Int.tmod (A0 a_p1) (A0 ((1 : Int) + (Int.tmod (A0 a_n) (60 : Int))))))) == false) = true → (A8 (0 : Int) x12.length)) ((bif ((bif (bif (bif ((x11.2 : Int) != (0 : Int)) then true else (((x12.length : Int) : Int) != (1 : Int))) then true else (((x12.getD ((0 : Int)).toNat (default : A2)).Head : Int) != (Int.tmod (A0 a_p1) (A0 ((1 : Int) + (Int.tmod (A0 a_n) (60 : Int))))))) then true else (((((x12.getD ((0 : Int)).toNat (default : A2)).Body).length : Int) : Int) != (A0 ((A0 ((1 : Int) + (Int.tmod (A0 a_n) (60 : Int)))) - (Int.tmod (A0 a_p1) (A0 ((1 : Int) + (Int.tmod (A0 a_n) (60 : Int))))))))) == false) then C5 (x8.set ((A0 ((A0 ((1 : Int) + (Int.tmod (A0 a_n) (60 : Int)))) - (1 : Int)))).toNat ([(Int.tmod (A0 a_p1) (A0 ((1 : Int) + (Int.tmod (A0 a_n) (60 : Int)))))] : List (Int))) else some false).bind fun x15 => (bif (bif (bif (bif (bif ((x11.2 : Int) != (0 : Int)) then true else (((x12.length : Int) : Int) != (1 : Int))) then true else (((x12.getD ((0 : Int)).toNat (default : A2)).Head : Int) != (Int.tmod (A0 a_p1) (A0 ((1 : Int) + (Int.tmod (A0 a_n) (60 : Int))))))) then true else (((((x12.getD ((0 : Int)).toNat (default : A2)).Body).length : Int) : Int) != (A0 ((A0 ((1 : Int) + (Int.tmod (A0 a_n) (60 : Int)))) - (Int.tmod (A0 a_p1) (A0 ((1 : Int) + (Int.tmod (A0 a_n) (60 : Int))))))))) then true else (!x15)) then (some false) else ((Aw (S := Int) (X := (Unit ⊕ Bool)) (Bl a_n a_p1 x11 x12) (0 : Int)).bind (fun x23 => (match x23 with | (.inl _) => ((Dv x11.1).bind fun x25 => ((bif (x25 == true) then D1 x11.1 else some false).bind fun x26 => (some (bif x25 then (!x26) else false)))) | (.inr r27) => (some r27))))))))))))))))))
theorem ok_locksteplaw10_LoopRing (a_n : Int) (a_p1 : Int) (r : Bool) (h : Dz a_n a_p1 = some r) : Spec Try.prog 7 [(.int .u8 a_n), (.int .u8 a_p1)] [] (.bool r) [] := by
  refine An (fn := Try.f7) Try.func7 rfl rfl (by kernel_rfl) (fun Γ hn hΓ => ?_); have hq : RgQ Try.prog Γ 114 [] := ⟨hn, mix, hΓ⟩; unfold Dz at h; refine Au ⟨[(0, (.int .u8 a_n)), (1, (.int .u8 a_p1))], [], []⟩ hq ?_; refine Ae ?_; obtain ⟨x1, hx1, h⟩ := bind_some h; refine B6 [⟨[], [], (.bool x1), [], []⟩] [] ⟨[(0, (.int .u8 a_n)), (1, (.int .u8 a_p1)), (15, (.bool (!x1)))], [], []⟩ [(Spec Try.prog 8 [] [] (.bool x1) [])] hq ⟨(Kb  x1 hx1), trivial⟩ ?_; refine Ak (!x1) (by kernel_rfl) (fun hb => ?_) (fun hb => ?_)
  · replace h := Aq hb h; clear hb; refine Au ⟨[(4, (.bool false))], [], []⟩ hq ?_; refine Ar ?_; refine A3 ?_; obtain rfl := OI h; exact ⟨.inl rfl, [], by kernel_rfl⟩
  · replace h := Ay hb h; clear hb; refine Ai ?_; refine Aa ?_; refine B6 [] [] ⟨[(1, (.int .u8 a_p1)), (5, (G2 a_n))], [], []⟩ [((60 : Int) ≠ 0)] hq ⟨(by decide), trivial⟩ ?_; obtain ⟨hc2, h⟩ := Ab h; refine B6 [] [] ⟨[(5, (G2 a_n)), (6, (G1 a_p1 a_n))], [], []⟩ [((Gm a_n) ≠ 0)] hq ⟨hc2, trivial⟩ ?_; obtain ⟨hc3, h⟩ := Ab h; refine B6 [] [] ⟨[(5, (G2 a_n)), (6, (G1 a_p1 a_n)), (7, (.vsl 25 ((Gm a_n)).toNat))], [(25, .arr 1 36 (((Gm a_n)).toNat) (fun i_ => AV.eraseAll (fun n_ => B3 n_ [25]) ((fun _ => [(.slice 0 0 (fun _ => []) .exact)]) i_)))], []⟩ [(0 ≤ (Gm a_n) ∧ (Gm a_n) ≤ (Gm a_n) ∧ (Gm a_n) ≤ (room : Int))] hq ⟨hc3, trivial⟩ ?_; refine Af (Le.trans (Cd (st' := ⟨[(5, (G2 a_n)), (6, (G1 a_p1 a_n)), (7, (.vsl 25 ((Gm a_n)).toNat))], [(25, .arr 1 36 (((Gm a_n)).toNat) (fun i => At ((Yq a_n).getD i [])))], []⟩) (TmpsLe.refl _) (.arr (fun k hk => Mj (e := At) (d := []) (.cons (fun _ _ _ _ _ hh => AVle.untag _ _ _ _ _ (D2 _ _ _ _ _ hh)) .nil) _ k (Mm hk)) .nil)) (B0 (congrArg (fun k_ : Nat => (⟨[(5, (G2 a_n)), (6, (G1 a_p1 a_n)), (7, (.vsl 25 k_))], [(25, .arr 1 36 k_ (fun i => At ((Yq a_n).getD i [])))], []⟩ : St)) (show ((Gm a_n)).toNat = (Yq a_n).length from (List.length_replicate ..).symm)))) ?_; refine Ae ?_; refine Au ⟨[(5, (G2 a_n)), (6, (G1 a_p1 a_n)), (7, (.vsl 25 (Yq a_n).length)), (8, (.int .i64 (0 : Int)))], [(25, .arr 1 36 ((Yq a_n).length) (fun i => At ((Yq a_n).getD i [])))], []⟩ hq ?_; refine Aj ?_; refine Af (st' := (fun ((i4, l5) : (Int × List (List (Int)))) => (⟨(Q426 a_n a_p1 l5 i4), [(25, .arr 1 36 l5.length (fun i => At (l5.getD i [])))], []⟩ : St)) ((0 : Int), (Yq a_n))) (Le.refl _ _) ?_; obtain ⟨x8, hx8, h⟩ := bind_some h; refine Bh (fun ((i4, l5) : (Int × List (List (Int)))) => (⟨(Q426 a_n a_p1 l5 i4), [(25, .arr 1 36 l5.length (fun i => At (l5.getD i [])))], []⟩ : St)) _ (fun (l6 : List (List (Int))) (e : Exit) (st : St) => e = (.exit 0) ∧ Le Γ st (⟨[(5, (G2 a_n)), (6, (G1 a_p1 a_n)), (7, (.vsl 25 l6.length))], [(25, .arr 1 36 l6.length (fun i => At (l6.getD i [])))], []⟩ : St)) ?_ hx8 ?_
    · rintro ⟨i4, l5⟩ y h; unfold Bk at h; refine Ae ?_; refine Au ⟨[(5, (G2 a_n)), (6, (G1 a_p1 a_n)), (7, (.vsl 25 l5.length)), (8, (.int .i64 i4)), (29, (.bool (decide (((A0 (i4 + (1 : Int))) : Int) < (Gm a_n)))))], [(25, .arr 1 36 l5.length (fun i => At (l5.getD i [])))], []⟩ hq ?_; refine Ak (decide (((A0 (i4 + (1 : Int))) : Int) < (Gm a_n))) (by kernel_rfl) (fun hb => ?_) (fun hb => ?_)
      · replace h := Aq hb h; clear hb; refine Ai ?_; refine Aa ?_; refine Ae ?_; refine Aj ?_; obtain ⟨hc7, h⟩ := Ab h; refine rg [] [(36, (AV.list 1 Ac (0 : Int) (Tf i4) .none))] ⟨(Q426 a_n a_p1 l5 i4), [(25, .arr 1 36 l5.length (fun i_ => AV.eraseAll (fun n_ => B3 n_ [25]) ((E6 (fun i => At (l5.getD i [])) (i4).toNat 0 [(AV.list 1 Ac (0 : Int) (Tf i4) .none)]) i_)))], []⟩ [(AVle (.slice 1 1 (fun i => ([[(.int .i64 (A0 (i4 + (1 : Int))))]] : List (List AV)).getD i []) .exact) (AV.list 1 Ac (0 : Int) (Tf i4) .none)), (A8 i4 l5.length), (l5.length = l5.length)] hq ⟨(fun _ _ _ _ _ hh => AVle.untag _ _ _ _ _ ((E5 rfl (fun i hi => En (e := Ac) (d := (0 : Int)) (Tf i4) i hi)) _ _ _ _ _ hh)), hc7, rfl, trivial⟩ ?_; refine Am ?_; refine Aa ?_; refine Af (Le.trans (Cd (st' := ⟨(Q426 a_n a_p1 l5 i4), [(25, .arr 1 36 l5.length (fun i => At ((l5.set (i4).toNat (Tf i4)).getD i [])))], []⟩) (TmpsLe.refl _) (.arr (Bc (List.length_set ..).symm (fun k_ hk_ => (congrArg (AV.eraseAll (fun n_ => B3 n_ [25])) ((F8 (fun _ _ => rfl) (Gx hc7) rfl) k_ hk_)).trans rfl)) .nil)) (B0 (congrArg (fun k_ : Nat => (⟨[(5, (G2 a_n)), (6, (G1 a_p1 a_n)), (7, (.vsl 25 k_)), (8, (.int .i64 i4))], [(25, .arr 1 36 k_ (fun i => At ((l5.set (i4).toNat (Tf i4)).getD i [])))], []⟩ : St)) (show l5.length = (l5.set (i4).toNat (Tf i4)).length from (List.length_set ..).symm)))) ?_; refine Mq ⟨[(5, (G2 a_n)), (6, (G1 a_p1 a_n)), (7, (.vsl 25 (l5.set (i4).toNat (Tf i4)).length)), (8, (.int .i64 (A0 (i4 + (1 : Int)))))], [(25, .arr 1 36 ((l5.set (i4).toNat (Tf i4)).length) (fun i => At ((l5.set (i4).toNat (Tf i4)).getD i [])))], []⟩ hq ?_; obtain rfl := OI h; exact ⟨rfl, Le.refl _ _⟩
      · replace h := Ay hb h; clear hb; refine Bi ?_; refine A6 ?_; obtain rfl := OI h; exact ⟨(by intro hh; cases hh), rfl, F2 [5, 6, 7] [25] hq⟩
    · clear hx8; rintro e st' ⟨rfl, hl9⟩; refine A1 ?_; refine Aa ?_; refine Af hl9 ?_; obtain ⟨hc10, h⟩ := Ab h; refine B6 [] [(42, (Q422 a_p1 a_n))] ⟨[(5, (G2 a_n)), (6, (G1 a_p1 a_n)), (7, (.vsl 25 x8.length))], [(25, .arr 1 36 x8.length (fun i_ => AV.eraseAll (fun n_ => B3 n_ [25]) ((E6 (fun i => At (x8.getD i [])) ((A0 ((Gm a_n) - (1 : Int)))).toNat 0 [(Q422 a_p1 a_n)]) i_)))], []⟩ [(AVle (.slice 1 1 (fun i => ([[(G1 a_p1 a_n)]] : List (List AV)).getD i []) .exact) (Q422 a_p1 a_n)), (A8 (A0 ((Gm a_n) - (1 : Int))) x8.length), (x8.length = x8.length)] hq ⟨(fun _ _ _ _ _ hh => AVle.untag _ _ _ _ _ ((E5 rfl (fun i hi => En (e := Ac) (d := (0 : Int)) ([(Int.tmod (A0 a_p1) (Gm a_n))] : List (Int)) i hi)) _ _ _ _ _ hh)), hc10, rfl, trivial⟩ ?_; refine Af (Le.trans (Cd (st' := ⟨[(5, (G2 a_n)), (6, (G1 a_p1 a_n)), (7, (.vsl 25 x8.length))], [(25, .arr 1 36 x8.length (fun i => At ((M0 x8 a_n a_p1).getD i [])))], []⟩) (TmpsLe.refl _) (.arr (Bc (List.length_set ..).symm (fun k_ hk_ => (congrArg (AV.eraseAll (fun n_ => B3 n_ [25])) ((F8 (fun _ _ => rfl) (Gx hc10) rfl) k_ hk_)).trans rfl)) .nil)) (B0 (congrArg (fun k_ : Nat => (⟨[(5, (G2 a_n)), (6, (G1 a_p1 a_n)), (7, (.vsl 25 k_))], [(25, .arr 1 36 k_ (fun i => At ((M0 x8 a_n a_p1).getD i [])))], []⟩ : St)) (show x8.length = (M0 x8 a_n a_p1).length from (List.length_set ..).symm)))) ?_; refine Ae ?_; refine Af (Le.trans (Gi (nm := 25) (sz := 1) (n := ((M0 x8 a_n a_p1).length)) (e := 36) (f := (fun i => At ((M0 x8 a_n a_p1).getD i []))) (g := (fun i => At ((M0 x8 a_n a_p1).getD i []))) rfl ⟨rfl, trivial⟩ (fun _ _ => rfl) (by rw [hΓ]; rfl)) (B0 (st' := ⟨[(5, (G2 a_n)), (6, (G1 a_p1 a_n)), (7, (AV.list 1 At [] (M0 x8 a_n a_p1) (.own 25)))], [(25, .tok 1 36 ((M0 x8 a_n a_p1).length))], []⟩) (by kernel_rfl))) ?_; obtain ⟨x11, hx11, h⟩ := bind_some h; refine rg [⟨[], [], (.tuple [(.agg (B2 x11.1)), (.int .i64 x11.2)]), [], []⟩] [] ⟨[(5, (G2 a_n)), (6, (G1 a_p1 a_n)), (7, (AV.list 1 At [] (M0 x8 a_n a_p1) (.own 25))), (9, (.ptr 9 0)), (10, (.int .i64 x11.2))], [(9, .row 26 (Q423 x11)), (25, .tok 1 36 ((M0 x8 a_n a_p1).length))], []⟩ [(Spec Try.prog 10 [(AV.list 1 At [] (M0 x8 a_n a_p1) .none)] [] (.tuple [(.agg (B2 x11.1)), (.int .i64 x11.2)]) [])] hq ⟨(Je (M0 x8 a_n a_p1) x11 hx11), trivial⟩ ?_; refine Aa ?_; obtain ⟨x12, hx12, h⟩ := bind_some h; refine B6 [⟨[], [(20000, 50)], (AV.list 2 Dt (default : A2) x12 (.own 20000)), [(20000, .tok 2 38 x12.length)], []⟩] [] ⟨[(5, (G2 a_n)), (6, (G1 a_p1 a_n)), (7, (AV.list 1 At [] (M0 x8 a_n a_p1) (.own 25))), (9, (.ptr 9 0)), (10, (.int .i64 x11.2)), (11, (Qb x12))], [(9, .row 26 (Q423 x11)), (25, .tok 1 36 ((M0 x8 a_n a_p1).length)), (50, .tok 2 38 x12.length)], []⟩ [(Spec Try.prog 12 [(.agg (B2 x11.1))] [] (AV.list 2 Dt (default : A2) x12 (.own 20000)) [(20000, .tok 2 38 x12.length)])] hq ⟨(Lb x11.1 x12 hx12), trivial⟩ ?_; refine Ae ?_; obtain ⟨hc13, h⟩ := Ab h; obtain ⟨hc14, h⟩ := Ab h; obtain ⟨x15, hx15, h⟩ := bind_some h; refine B6 [⟨[], [], (.bool x15), [], []⟩] [] ⟨[(5, (G2 a_n)), (6, (G1 a_p1 a_n)), (9, (.ptr 9 0)), (11, (Qb x12)), (81, (.bool (bif (V3 x11 x12 a_p1 a_n) then true else (!x15))))], (R0 x11 x12), []⟩ [((Q415 x11) = true → (Q415 x11) = true), ((Q415 x11) = true → (Q415 x11) = true), (((x11.2 : Int) != (0 : Int)) = false → (Q415 x11) = true), (((Oi x11 x12) == false) = true → ((Oi x11 x12) == false) = true), (((Oi x11 x12) == false) = true → (A8 (0 : Int) x12.length)), (((Oi x11 x12) == false) = true → ((Oi x11 x12) == false) = true), (((Oi x11 x12) == false) = true → ((Oi x11 x12) == false) = true), (((Oi x11 x12) == false) = true → ((Oi x11 x12) == false) = true), (((Oi x11 x12) == false) = true → ((Oi x11 x12) == false) = true), ((Oi x11 x12) = false → ((Oi x11 x12) == false) = true), ((K4 x11 x12 a_p1 a_n) = true → (K4 x11 x12 a_p1 a_n) = true), ((K4 x11 x12 a_p1 a_n) = true → (A8 (0 : Int) x12.length)), ((K4 x11 x12 a_p1 a_n) = true → (K4 x11 x12 a_p1 a_n) = true), ((K4 x11 x12 a_p1 a_n) = true → (K4 x11 x12 a_p1 a_n) = true), ((K4 x11 x12 a_p1 a_n) = true → (K4 x11 x12 a_p1 a_n) = true), ((K4 x11 x12 a_p1 a_n) = true → (K4 x11 x12 a_p1 a_n) = true), ((K4 x11 x12 a_p1 a_n) = true → (K4 x11 x12 a_p1 a_n) = true), ((K4 x11 x12 a_p1 a_n) = true → (K4 x11 x12 a_p1 a_n) = true), ((K4 x11 x12 a_p1 a_n) = true → (K4 x11 x12 a_p1 a_n) = true), ((Q416 x11 x12 a_p1 a_n) = false → (K4 x11 x12 a_p1 a_n) = true), (((V3 x11 x12 a_p1 a_n) == false) = true → ((V3 x11 x12 a_p1 a_n) == false) = true), (((V3 x11 x12 a_p1 a_n) == false) = true → (Spec Try.prog 9 [(AV.list 1 At [] (M0 x8 a_n a_p1) .none)] [] (.bool x15) [])), (((V3 x11 x12 a_p1 a_n) == false) = true → ((V3 x11 x12 a_p1 a_n) == false) = true), ((V3 x11 x12 a_p1 a_n) = false → ((V3 x11 x12 a_p1 a_n) == false) = true)] hq ⟨(fun hg => hg), (fun hg => hg), gF, (fun hg => hg), (fun hg => (hc13 hg)), (fun hg => hg), (fun hg => hg), (fun hg => hg), (fun hg => hg), gF, (fun hg => hg), (fun hg => (hc14 hg)), (fun hg => hg), (fun hg => hg), (fun hg => hg), (fun hg => hg), (fun hg => hg), (fun hg => hg), (fun hg => hg), gF, (fun hg => hg), (fun hg => (Km (M0 x8 a_n a_p1) x15 (Aq hg hx15))), (fun hg => hg), gF, trivial⟩ ?_; refine Ak (bif (V3 x11 x12 a_p1 a_n) then true else (!x15)) (by kernel_rfl) (fun hb => ?_) (fun hb => ?_)
      · replace h := Aq hb h; clear hb; refine Au ⟨[(4, (.bool false))], [], []⟩ hq ?_; refine Ar ?_; refine A3 ?_; obtain rfl := OI h; exact ⟨.inl rfl, [], by kernel_rfl⟩
      · replace h := Ay hb h; clear hb; refine Ai ?_; refine Aa ?_; refine Ae ?_; refine Au ⟨[(5, (G2 a_n)), (6, (G1 a_p1 a_n)), (9, (.ptr 9 0)), (11, (Qb x12)), (12, (.int .i64 (0 : Int)))], (R0 x11 x12), []⟩ hq ?_; refine Aj ?_; refine Af (st' := (fun (i16 : Int) => (⟨[(5, (G2 a_n)), (6, (G1 a_p1 a_n)), (9, (.ptr 9 0)), (11, (Qb x12)), (12, (.int .i64 i16))], (R0 x11 x12), []⟩ : St)) (0 : Int)) (Le.refl _ _) ?_; obtain ⟨x23, hx23, h⟩ := bind_some h; refine Bh (fun (i16 : Int) => (⟨[(5, (G2 a_n)), (6, (G1 a_p1 a_n)), (9, (.ptr 9 0)), (11, (Qb x12)), (12, (.int .i64 i16))], (R0 x11 x12), []⟩ : St)) _ (fun (x_ : (Unit ⊕ Bool)) (e : Exit) (st : St) => match x_ with | (.inl _) => e = (.exit 2) ∧ Le Γ st (⟨[(9, (.ptr 9 0))], [(9, .row 26 (Q423 x11))], []⟩ : St) | (.inr r_) => e = .ret ∧ La Try.prog Try.f7.results.toList [] (.bool r_) [] e st) ?_ hx23 ?_
        · intro i16 y h; unfold Bl at h; refine Ae ?_; refine Au ⟨[(5, (G2 a_n)), (6, (G1 a_p1 a_n)), (9, (.ptr 9 0)), (11, (Qb x12)), (12, (.int .i64 i16)), (84, (.bool (decide ((i16 : Int) < (Gm a_n)))))], (R0 x11 x12), []⟩ hq ?_; refine Ak (decide ((i16 : Int) < (Gm a_n))) (by kernel_rfl) (fun hb => ?_) (fun hb => ?_)
          · replace h := Aq hb h; clear hb; refine Ai ?_; refine Aa ?_; refine Ae ?_; refine Aj ?_; refine Au ⟨[(5, (G2 a_n)), (6, (G1 a_p1 a_n)), (9, (.ptr 9 0)), (11, (Qb x12)), (12, (.int .i64 i16)), (13, (.int .i64 (0 : Int)))], (R0 x11 x12), []⟩ hq ?_; refine Ae ?_; obtain ⟨x18, hx18, h⟩ := bind_some h; refine Ez (fun (i17 : Int) (e : Exit) (st : St) => e = .normal ∧ Le Γ st (⟨[(5, (G2 a_n)), (6, (G1 a_p1 a_n)), (9, (.ptr 9 0)), (11, (Qb x12)), (12, (.int .i64 i16)), (13, (.int .i64 i17))], (R0 x11 x12), []⟩ : St)) hx18 ?_ ?_
            · clear h hx18; intro y h; refine Au ⟨[(5, (G2 a_n)), (6, (G1 a_p1 a_n)), (9, (.ptr 9 0)), (11, (Qb x12)), (12, (.int .i64 i16)), (13, (.int .i64 (0 : Int))), (89, (.bool (decide (((Int.tmod (A0 a_p1) (Gm a_n)) : Int) ≤ i16))))], (R0 x11 x12), []⟩ hq ?_; refine Ak (decide (((Int.tmod (A0 a_p1) (Gm a_n)) : Int) ≤ i16)) (by kernel_rfl) (fun hb => ?_) (fun hb => ?_)
              · replace h := Aq hb h; clear hb; refine Mq ⟨[(5, (G2 a_n)), (6, (G1 a_p1 a_n)), (9, (.ptr 9 0)), (11, (Qb x12)), (12, (.int .i64 i16)), (13, (.int .i64 (1 : Int)))], (R0 x11 x12), []⟩ hq ?_; obtain rfl := OI h; exact ⟨rfl, Le.refl _ _⟩
              · replace h := Ay hb h; clear hb; refine Ai ?_; obtain rfl := OI h; exact ⟨rfl, F2 [5, 6, 9, 11, 12, 13] [9, 50] hq⟩
            · clear hx18; rintro e st' ⟨rfl, hl19⟩; refine Aa ?_; refine Af hl19 ?_; obtain ⟨x20, hx20, h⟩ := bind_some h; obtain ⟨hc21, h⟩ := Ab h; obtain ⟨x22, hx22, h⟩ := bind_some h; refine B6 [⟨[], [], (.int .i64 x20), [], []⟩, ⟨[], [], (.bool x22), [], []⟩] [] ⟨[(5, (G2 a_n)), (6, (G1 a_p1 a_n)), (9, (.ptr 9 0)), (11, (Qb x12)), (12, (.int .i64 i16)), (106, (.bool (bif ((x20 : Int) != x18) then true else (x22 != (decide (((Int.tmod (A0 a_p1) (Gm a_n)) : Int) ≤ i16))))))], (R0 x11 x12), []⟩ [(Spec Try.prog 19 [(.agg (B2 x11.1)), (.int .i64 i16)] [] (.int .i64 x20) []), ((Jm x20 x18) = true → (Jm x20 x18) = true), ((Jm x20 x18) = true → (A8 (0 : Int) x12.length)), ((Jm x20 x18) = true → (Jm x20 x18) = true), ((Jm x20 x18) = true → (Jm x20 x18) = true), ((Jm x20 x18) = true → (Jm x20 x18) = true), ((Jm x20 x18) = true → (Jm x20 x18) = true), ((Jm x20 x18) = true → (Spec Try.prog 14 [(AV.list 1 Ac (0 : Int) (Q410 x12).Body .none), (.int .i64 i16)] [] (.bool x22) [])), ((Jm x20 x18) = true → (Jm x20 x18) = true), ((Jm x20 x18) = true → (Jm x20 x18) = true), ((Jm x20 x18) = true → (Jm x20 x18) = true), ((Jm x20 x18) = true → (Jm x20 x18) = true), (((x20 : Int) != x18) = false → (Jm x20 x18) = true)] hq ⟨(Jc x11.1 i16 x20 hx20), (fun hg => hg), (fun hg => (hc21 hg)), (fun hg => hg), (fun hg => hg), (fun hg => hg), (fun hg => hg), (fun hg => (Lv ((Q410 x12).Body) i16 x22 (Aq hg hx22))), (fun hg => hg), (fun hg => hg), (fun hg => hg), (fun hg => hg), gF, trivial⟩ ?_; refine Ak (bif ((x20 : Int) != x18) then true else (x22 != (decide (((Int.tmod (A0 a_p1) (Gm a_n)) : Int) ≤ i16)))) (by kernel_rfl) (fun hb => ?_) (fun hb => ?_)
              · replace h := Aq hb h; clear hb; refine Au ⟨[(4, (.bool false))], [], []⟩ hq ?_; refine Ar ?_; refine Br ?_; refine A3 ?_; obtain rfl := OI h; exact ⟨(by intro hh; cases hh), rfl, ⟨.inl rfl, [], by kernel_rfl⟩⟩
              · replace h := Ay hb h; clear hb; refine Ai ?_; refine Am ?_; refine Aa ?_; refine Mq ⟨[(5, (G2 a_n)), (6, (G1 a_p1 a_n)), (9, (.ptr 9 0)), (11, (Qb x12)), (12, (.int .i64 (A0 (i16 + (1 : Int)))))], (R0 x11 x12), []⟩ hq ?_; obtain rfl := OI h; exact ⟨rfl, Le.refl _ _⟩
          · replace h := Ay hb h; clear hb; refine Bi ?_; refine A6 ?_; obtain rfl := OI h; exact ⟨(by intro hh; cases hh), rfl, F2 [9] [9] hq⟩
        · clear hx23; rcases x23 with _ | r27
          · rintro e st' ⟨rfl, hl24⟩; refine A1 ?_; refine Aa ?_; refine Af hl24 ?_; obtain ⟨x25, hx25, h⟩ := bind_some h; obtain ⟨x26, hx26, h⟩ := bind_some h; refine B6 [⟨[], [], (.bool x25), [], []⟩, ⟨[], [], (.bool x26), [], []⟩] [] ⟨[(4, (.bool (bif x25 then (!x26) else false)))], [], []⟩ [(Spec Try.prog 13 [(.agg (B2 x11.1))] [] (.bool x25) []), ((x25 == true) = true → (x25 == true) = true), ((x25 == true) = true → (Spec Try.prog 16 [(.agg (B2 x11.1))] [] (.bool x26) [])), ((x25 == true) = true → (x25 == true) = true), (x25 = true → (x25 == true) = true)] hq ⟨(I7 x11.1 x25 hx25), (fun hg => hg), (fun hg => (Hu x11.1 x26 (Aq hg hx26))), (fun hg => hg), gT, trivial⟩ ?_; refine Ar ?_; obtain rfl := OI h; exact ⟨.inl rfl, [], by kernel_rfl⟩
          · rintro e st' ⟨rfl, hk⟩; refine Br ?_; refine A3 ?_; obtain rfl := OI h; exact hk
end
end Go.Proofs.Ytjpacggpipflcaa

namespace Go.Proofs.Ytjpacggpipflcaa
noncomputable section
open Go Go.RowKit
theorem Gr {n : Int} (h : -9223372036854775808 ≤ n) (h' : n < 9223372036854775808) : A0 n = n := by
  show IntKind.i64.wrap n = n
  simp only [IntKind.wrap, IntKind.bits, IntKind.signed]
  simp
  split <;> omega
theorem Ag {α : Type} (l : List α) (i : Nat) (d : α) (h : i < l.length) : l.getD i d = l[i] := by simp [List.getD, h]
end
end Go.Proofs.Ytjpacggpipflcaa

namespace Go.Proofs.Ytjpacggpipflcaa
noncomputable section
open Go Go.RowKit
set_option linter.unusedVariables false
theorem Yo {α β : Type} (l : List α) (E : α → List β) (B : Nat) (h : ∀ a ∈ l, (E a).length ≤ B) : (l.map E).flatten.length ≤ l.length * B := by
  induction l with
  | nil => simp
  | cons a l ih =>
    have h1 := h a (by simp); have h2 := ih (fun b hb => h b (by simp [hb])); rw [List.map_cons, List.flatten_cons, List.length_append, List.length_cons, Nat.add_mul]; omega
theorem Fg {α : Type} {l : List α} {i : Nat} {d : α} (h : i < l.length) : l.getD i d ∈ l := by rw [Ag _ _ _ h]; exact List.getElem_mem h
theorem inB_nat {i n : Nat} (h : i < n) : A8 (i : Int) n := ⟨by omega, by exact_mod_cast h⟩
end
end Go.Proofs.Ytjpacggpipflcaa

namespace Go.Proofs.Ytjpacggpipflcaa
noncomputable section
open Go Go.RowKit
set_option linter.unusedVariables false
set_option linter.unusedSimpArgs false
theorem D6 {S X : Type} (f : S → Option (LR S X)) (T : Nat → S) (x : X) : ∀ (n : Nat), (∀ i, i < n → f (T i) = some (.next (T (i + 1)))) → f (T n) = some (.done x) → Aw f (T 0) = some x := by
  suffices h : ∀ (k i n : Nat), i + k = n → (∀ j, i ≤ j → j < n → f (T j) = some (.next (T (j + 1)))) → f (T n) = some (.done x) → Aw f (T i) = some x from
    fun n h1 h2 => h n 0 n (by omega) (fun j _ hj => h1 j hj) h2
  intro k
  induction k with
  | zero =>
    intro i n hi _ h2
    have hin : n = i := by omega
    subst hin; exact A7 h2
  | succ k ih => intro i n hi h1 h2; rw [Bs (h1 i (Nat.le_refl _) (by omega))]; exact ih (i + 1) n (by omega) (fun j hj hj' => h1 j (by omega) hj') h2
theorem Tn {S X : Type} (f : S → Option (LR S X)) (T : Nat → S) : ∀ (n : Nat), (∀ i, i < n → f (T i) = some (.next (T (i + 1)))) → Aw f (T 0) = Aw f (T n) := by
  intro n
  induction n with
  | zero => intro _; rfl
  | succ n ih => intro h; rw [ih (fun i hi => h i (by omega)), Bs (h n (by omega))]
theorem Gh {S X : Type} (f : S → Option (LR S X)) (T : Nat → S) (p : Nat → Bool) (yes no : X) (n : Nat) (hn : ∀ i, i < n → p i = true → f (T i) = some (.next (T (i + 1)))) (hf : ∀ i, i < n → p i = false → f (T i) = some (.done no))
    (he : f (T n) = some (.done yes)) : Aw f (T 0) = some (bif (List.range n).all p then yes else no) := by
  cases hall : (List.range n).all p with
  | true =>
    rw [cond_true]; exact D6 f T yes n (fun i hi => hn i hi (List.all_eq_true.1 hall i (List.mem_range.2 hi))) he
  | false =>
    rw [cond_false]
    have hex : ∃ i, i < n ∧ p i = false := by
      have : ¬ ∀ i ∈ List.range n, p i = true := fun h => by rw [List.all_eq_true.2 h] at hall; cases hall
      simpa using this
    let P : Nat → Prop := fun m => m < n ∧ p m = false
    obtain ⟨m, hm⟩ := hex
    have key : ∀ m, m < n → p m = false → ∃ k, k < n ∧ p k = false ∧ ∀ j, j < k → p j = true := by
      intro m
      induction m using Nat.strongRecOn with
      | ind m ih =>
        intro h1 h2
        by_cases h : ∃ j, j < m ∧ p j = false
        · obtain ⟨j, hj, hpj⟩ := h; exact ih j hj (by omega) hpj
        · refine ⟨m, h1, h2, fun j hj => ?_⟩
          cases hpj : p j with
          | true => rfl
          | false => exact (h ⟨j, hj, hpj⟩).elim
    obtain ⟨k, hk, hpk, hlt⟩ := key m hm.1 hm.2; rw [Tn f T k (fun i hi => hn i (by omega) (hlt i hi))]; exact A7 (hf k hk hpk)
theorem all_range {n : Nat} {p : Nat → Bool} : (List.range n).all p = true ↔ ∀ i, i < n → p i = true := by
  rw [List.all_eq_true]; exact ⟨fun h i hi => h i (List.mem_range.2 hi), fun h i hi => h i (List.mem_range.1 hi)⟩
theorem Ap (i : Nat) : ((i : Int)).toNat = i := Int.toNat_natCast i
theorem w1 {i : Nat} (h : i < 4611686018427387904) : A0 ((i : Int) + 1) = ((i + 1 : Nat) : Int) := by rw [Gr (by omega) (by omega)]; omega
theorem C6 {i n : Nat} (h : i < n) : decide (((i : Nat) : Int) < ((n : Nat) : Int)) = true := by simpa using h
theorem Et {n : Nat} : decide (((n : Nat) : Int) < ((n : Nat) : Int)) = false := by simp
theorem Ef {i n : Nat} (h : i < n) : A8 ((i : Nat) : Int) n := inB_nat h
theorem inbz {x : Int} {n : Nat} (h0 : 0 ≤ x) (h1 : x < n) : A8 x n := ⟨h0, h1⟩
def okAt (n : Nat) (l : List Int) (i : Nat) : Bool := decide ((if i = 0 then (-1 : Int) else l.getD (i - 1) 0) < l.getD i 0) && (decide (0 ≤ l.getD i 0) && decide (l.getD i 0 < n))
def okL (n : Nat) (l : List Int) : Bool := (List.range l.length).all (okAt n l)
def Ex (L : List (List Int)) : Bool := decide (1 ≤ L.length) && decide (L.length ≤ 64) && (List.range L.length).all fun i => okL L.length (L.getD i [])
def Nb (L : List (List Int)) (k i : Nat) : Bool := (L.getD k []).contains (i : Int)
def Es (L : List (List Int)) (m i : Nat) : List Int := ((List.range m).filter fun k => Nb L k i).map Int.ofNat
def D4 (L : List (List Int)) : List (List Int) := (List.range L.length).map (Es L L.length)
theorem Mp (a n : Int) : Ei a n = some (decide (0 ≤ a) && decide (a < n)) := by
  unfold Ei
  cases decide ((0 : Int) ≤ a) <;> rfl
theorem m_isCount (n : Nat) : Fa (n : Int) = some (decide (1 ≤ n) && decide (n ≤ 64)) := by
  unfold Fa
  have h1 : decide ((1 : Int) ≤ (n : Int)) = decide (1 ≤ n) := by apply decide_eq_decide.2; omega
  have h2 : decide ((n : Int) ≤ (64 : Int)) = decide (n ≤ 64) := by apply decide_eq_decide.2; omega
  rw [h1, h2]
  cases decide (1 ≤ n) <;> rfl
theorem Rd (L : List (List Int)) (i : Nat) (hl : (L.getD i []).length < 4611686018427387904) :
    Aw (B4 L (i : Int)) ((-1 : Int), (0 : Int)) = some (bif okL L.length (L.getD i []) then .inl () else .inr false) := by
  refine Gh (B4 L (i : Int)) (fun j => ((if j = 0 then (-1 : Int) else (L.getD i []).getD (j - 1) 0), ((j : Nat) : Int))) (okAt L.length (L.getD i [])) (.inl ()) (.inr false) _ (fun j hj hp => ?_) (fun j hj hp => ?_) ?_
  · unfold okAt at hp; simp only [Bool.and_eq_true, decide_eq_true_eq] at hp; obtain ⟨h1, h2, h3⟩ := hp
    show B4 L (i : Int) (_, _) = _
    unfold B4; simp only [Ap, C6 hj, cond_true, Mp]; rw [Ad (Ef hj)]
    have e1 : decide ((L.getD i []).getD j 0 ≤ (if j = 0 then (-1 : Int) else (L.getD i []).getD (j - 1) 0)) = false := by simpa using h1
    simp only [e1, decide_eq_true h2, decide_eq_true h3, Bool.and_self, beq_self_eq_true, cond_true, cond_false, Option.bind_some, Bool.not_true]; rw [w1 (show j < 4611686018427387904 by omega)]
    simp
  · show B4 L (i : Int) (_, _) = _
    unfold B4; simp only [Ap, C6 hj, cond_true, Mp]; rw [Ad (Ef hj)]
    cases h1 : decide ((L.getD i []).getD j 0 ≤ (if j = 0 then (-1 : Int) else (L.getD i []).getD (j - 1) 0)) with
    | true => simp only [cond_true, show ((true == false) = false) from rfl, cond_false, Option.bind_some]
    | false =>
      have h1' : decide ((if j = 0 then (-1 : Int) else (L.getD i []).getD (j - 1) 0) < (L.getD i []).getD j 0) = true := by simpa using h1
      unfold okAt at hp; rw [h1', Bool.true_and] at hp; simp only [beq_self_eq_true, cond_true, cond_false, Option.bind_some, hp, Bool.not_false]
  · show B4 L (i : Int) (_, _) = _
    unfold B4; simp only [Ap, Et, cond_false]
def Fits (L : List (List Int)) : Prop := L.length < 4611686018427387904 ∧ ∀ l ∈ L, l.length < 4611686018427387904
theorem Fits.at {L : List (List Int)} (h : Fits L) (i : Nat) : (L.getD i []).length < 4611686018427387904 := by
  by_cases hi : i < L.length
  · exact h.2 _ (Fg hi)
  · rw [List.getD_eq_getElem?_getD, List.getElem?_eq_none (by omega)]; simp
theorem Uc (L : List (List Int)) (h : Fits L) : Eh L = some (Ex L) := by
  unfold Eh; rw [m_isCount, Option.bind_some]; unfold Ex
  cases hc : (decide (1 ≤ L.length) && decide (L.length ≤ 64)) with
  | false => rfl
  | true =>
    simp only [Bool.not_true, cond_false, Bool.true_and]; have := Gh (B5 L) (fun j => ((j : Nat) : Int)) (fun i => okL L.length (L.getD i [])) (.inl ()) (.inr false) L.length (fun j hj hp => ?_) (fun j hj hp => ?_) ?_
    · rw [show Aw (B5 L) (0 : Int) = _ from this]
      cases (List.range L.length).all fun i => okL L.length (L.getD i []) <;> rfl
    · show B5 L (j : Int) = _
      unfold B5; simp only [C6 hj, cond_true]; rw [Ad (Ef hj), Rd L j (h.at j), hp]; simp only [cond_true, Option.bind_some, w1 (show j < 4611686018427387904 by have := h.1; omega)]
    · show B5 L (j : Int) = _
      unfold B5; simp only [C6 hj, cond_true]; rw [Ad (Ef hj), Rd L j (h.at j), hp]
      rfl
    · show B5 L _ = _
      unfold B5; simp only [Et, cond_false]
end
end Go.Proofs.Ytjpacggpipflcaa

namespace Go.Proofs.Ytjpacggpipflcaa
noncomputable section
open Go Go.RowKit
set_option linter.unusedVariables false
set_option linter.unusedSimpArgs false
theorem Hz {α : Type} {n i : Nat} {g : Nat → α} {d : α} (h : i < n) : ((List.range n).map g).getD i d = g i := by simp [List.getD, h]
theorem Lo {α : Type} {n i : Nat} {g : Nat → α} {x : α} : ((List.range n).map g).set i x = (List.range n).map fun j => if j = i then x else g j := by
  apply List.ext_getElem?
  intro j; rw [List.getElem?_set]
  by_cases hj : j < n
  · by_cases hij : i = j
    · subst hij; simp [hj]
    · simp [hij, hj, Ne.symm hij]
  · simp [hj]; intro h; omega
theorem Fq {α : Type} {n : Nat} {g h : Nat → α} (H : ∀ i, i < n → g i = h i) : (List.range n).map g = (List.range n).map h := List.map_congr_left fun i hi => H i (List.mem_range.1 hi)
theorem mayS_iff {L : List (List Int)} : Ex L = true ↔ 1 ≤ L.length ∧ L.length ≤ 64 ∧ ∀ i, i < L.length → okL L.length (L.getD i []) = true := by
  unfold Ex; rw [Bool.and_eq_true, Bool.and_eq_true, all_range]; simp only [decide_eq_true_eq]; exact ⟨fun ⟨⟨a, b⟩, c⟩ => ⟨a, b, c⟩, fun ⟨a, b, c⟩ => ⟨⟨a, b⟩, c⟩⟩
theorem okL_iff {n : Nat} {l : List Int} : okL n l = true ↔ ∀ i, i < l.length → (0 ≤ l.getD i 0 ∧ l.getD i 0 < n) ∧ (0 < i → l.getD (i - 1) 0 < l.getD i 0) := by
  unfold okL; rw [all_range]; unfold okAt; simp only [Bool.and_eq_true, decide_eq_true_eq]
  constructor
  · intro h i hi; obtain ⟨h1, h2, h3⟩ := h i hi; refine ⟨⟨h2, h3⟩, fun hp => ?_⟩; rwa [if_neg (by omega)] at h1
  · intro h i hi; obtain ⟨⟨h2, h3⟩, h1⟩ := h i hi; refine ⟨?_, h2, h3⟩
    by_cases hz : i = 0
    · rw [if_pos hz]; omega
    · rw [if_neg hz]; exact h1 (by omega)
section
variable {n : Nat} {l : List Int} (h : okL n l = true)
include h
theorem O5 {i : Nat} (hi : i < l.length) : 0 ≤ l.getD i 0 ∧ l.getD i 0 < n := (okL_iff.1 h i hi).1
theorem Y9 {i j : Nat} (hij : i < j) (hj : j < l.length) : l.getD i 0 < l.getD j 0 := by
  induction j with
  | zero => omega
  | succ j ih =>
    have h1 := (okL_iff.1 h (j + 1) hj).2 (by omega); rw [show j + 1 - 1 = j by omega] at h1
    by_cases he : i = j
    · rw [he]; exact h1
    · exact Int.lt_trans (ih (by omega) (by omega)) h1
theorem okL_ge {i : Nat} (hi : i < l.length) : (i : Int) ≤ l.getD i 0 := by
  induction i with
  | zero => exact (O5 h hi).1
  | succ i ih =>
    have := Y9 h (show i < i + 1 by omega) hi; have := ih (by omega); omega
theorem Ka : l.length ≤ n := by
  by_cases hz : l.length = 0
  · omega
  · have h1 := okL_ge h (show l.length - 1 < l.length by omega); have h2 := (O5 h (show l.length - 1 < l.length by omega)).2; omega
theorem Gc {x : Int} (hx : x ∈ l) : 0 ≤ x ∧ x < n := by
  obtain ⟨i, hi, rfl⟩ := List.getElem_of_mem hx; have := O5 h hi; rwa [Ag _ _ _ hi] at this
theorem Xp : l.Pairwise (· < ·) := by
  rw [List.pairwise_iff_getElem]; intro i j hi hj hij; have := Y9 h hij hj; rwa [Ag _ _ _ hi, Ag _ _ _ hj] at this
end
theorem Z8 {n : Nat} {l : List Int} (h1 : ∀ x ∈ l, 0 ≤ x ∧ x < n) (h2 : l.Pairwise (· < ·)) : okL n l = true := by
  rw [okL_iff]; intro i hi; rw [Ag _ _ _ hi]; refine ⟨h1 _ (List.getElem_mem hi), fun hp => ?_⟩; rw [Ag _ _ _ (show i - 1 < l.length by omega)]; exact (List.pairwise_iff_getElem.1 h2) _ _ _ _ (by omega)
theorem Ju {L : List (List Int)} (h : Ex L = true) : L.length ≤ 64 ∧ ∀ l ∈ L, l.length ≤ 64 := by
  obtain ⟨h1, h2, h3⟩ := mayS_iff.1 h; refine ⟨h2, fun l hl => ?_⟩; obtain ⟨i, hi, rfl⟩ := List.getElem_of_mem hl; have := Ka (h3 i hi); rw [Ag _ _ _ hi] at this; omega
theorem fits_of {L : List (List Int)} (h : L.length ≤ 1000 ∧ ∀ l ∈ L, l.length ≤ 1000) : Fits L := ⟨by omega, fun l hl => by have := h.2 l hl; omega⟩
theorem m_clone (l : List Int) (h : l.length ≤ room) : Dg l = some l := by
  unfold Dg; rw [Ad (by simpa using h)]
  simp
theorem m_copied (L : List (List Int)) (h : L.length ≤ 1000 ∧ ∀ l ∈ L, l.length ≤ 1000) : Fh L = some L := by
  have hroom : (1000 : Nat) ≤ room := by decide
  unfold Fh; rw [Ad ⟨by omega, Int.le_refl _, by omega⟩, Ap]; have : Aw (C3 L) ((0 : Int), (List.range L.length).map fun i => if i < 0 then L.getD i [] else []) = some L := D6 (C3 L) (fun j => (((j : Nat) : Int), (List.range L.length).map fun i => if i < j then L.getD i [] else [])) L L.length (fun j hj => ?_) ?_
  · have e0 : (List.replicate L.length ([] : List Int)) = (List.range L.length).map fun i => if i < 0 then L.getD i [] else [] := by
      apply List.ext_getElem?
      intro i
      by_cases hi : i < L.length <;> simp [hi, List.getElem?_replicate]
    rw [e0, this]; rfl
  · show C3 L (_, _) = _
    unfold C3; simp only [Ap, C6 hj, cond_true]; rw [Ad (Ef hj), m_clone _ (by have := h.2 _ (Fg (d := []) hj); omega), Option.bind_some, Ad (Ef (by simpa using hj)), Lo, w1 (by omega)]
    congr 3
    apply Fq
    intro i hi
    by_cases h1 : i = j
    · subst h1; simp
    · by_cases h2 : i < j
      · simp [h1, h2, show i < j + 1 by omega]
      · simp [h1, h2, show ¬ i < j + 1 by omega]
  · show C3 L (_, _) = _
    unfold C3; simp only [Et, cond_false]
    congr 2
    apply List.ext_getElem?
    intro i
    by_cases hi : i < L.length
    · simp [hi]
    · simp [hi]
theorem Xq (L : List (List Int)) (k i : Nat) : Es L (k + 1) i = Es L k i ++ (if Nb L k i = true then [(k : Int)] else []) := by
  unfold Es; rw [List.range_succ, List.filter_append, List.map_append]
  congr 1
  cases hg : Nb L k i <;> simp [hg]
theorem J8 (L : List (List Int)) (k i : Nat) : (Es L k i).length ≤ k := by
  unfold Es; rw [List.length_map]; have := List.length_filter_le (fun k => Nb L k i) (List.range k)
  simpa using this
theorem O9 {l : List Int} {j : Nat} (hj : j < l.length) : l.take (j + 1) = l.take j ++ [l.getD j 0] := by
  rw [Ag _ _ _ hj, List.take_succ_eq_append_getElem hj]
def Jj (L : List (List Int)) (k j i : Nat) : Bool := ((L.getD k []).take j).contains (i : Int)
def Fi (L : List (List Int)) (k j : Nat) : List (List Int) := (List.range L.length).map fun i => Es L k i ++ (if Jj L k j i = true then [(k : Int)] else [])
theorem Wr (L : List (List Int)) (h : Ex L = true) (k j : Nat) (hk : k < L.length) (hj : j < (L.getD k []).length) :
    (Fi L k j).set ((L.getD k []).getD j 0).toNat ((Fi L k j).getD ((L.getD k []).getD j 0).toNat [] ++ [(k : Int)]) = Fi L k (j + 1) := by
  obtain ⟨h1, h2, h3⟩ := mayS_iff.1 h; have hok := h3 k hk; obtain ⟨a0, a1⟩ := O5 hok hj; unfold Fi; rw [Hz (by omega), Lo]
  apply Fq
  intro i hi
  have hnot : Jj L k j ((L.getD k []).getD j 0).toNat = false := by
    unfold Jj; rw [Int.toNat_of_nonneg a0]
    cases hc : ((L.getD k []).take j).contains ((L.getD k []).getD j 0) with
    | false => rfl
    | true =>
      rw [List.contains_iff_mem] at hc; obtain ⟨m, hm, he⟩ := List.getElem_of_mem hc
      have hm' : m < j := by simp at hm; omega
      rw [List.getElem_take] at he; have := Y9 hok hm' hj; rw [Ag _ _ _ (show m < (L.getD k []).length by omega), he] at this; omega
  by_cases hi2 : i = ((L.getD k []).getD j 0).toNat
  · rw [if_pos hi2, hnot]
    have : Jj L k (j + 1) i = true := by
      unfold Jj; rw [O9 hj, List.contains_iff_mem, hi2, Int.toNat_of_nonneg a0]
      simp
    rw [this, hi2]
    simp
  · rw [if_neg hi2]
    have : Jj L k (j + 1) i = Jj L k j i := by
      unfold Jj; rw [O9 hj, Bool.eq_iff_iff, List.contains_iff_mem, List.contains_iff_mem, List.mem_append]
      constructor
      · rintro (hm | hm)
        · exact hm
        · simp only [List.mem_singleton] at hm; exact (hi2 (by omega)).elim
      · exact .inl
    rw [this]
theorem W1 (L : List (List Int)) (h : Ex L = true) : E0 L = some (D4 L) := by
  obtain ⟨h1, h2, h3⟩ := mayS_iff.1 h
  have hroom : (1000 : Nat) ≤ room := by decide
  unfold E0; rw [Ad ⟨by omega, Int.le_refl _, by omega⟩, Ap]
  have inner : ∀ k, k < L.length → Aw (C4 L (k : Int)) ((0 : Int), Fi L k 0) = some (Fi L k (L.getD k []).length) := fun k hk => by
    have hok := h3 k hk; refine D6 (C4 L (k : Int)) (fun j => (((j : Nat) : Int), Fi L k j)) (Fi L k (L.getD k []).length) (L.getD k []).length (fun j hj => ?_) ?_
    · obtain ⟨a0, a1⟩ := O5 hok hj
      have hlen : (Fi L k j).length = L.length := by simp [Fi]
      have hl64 := Ka hok
      show C4 L (k : Int) (_, _) = _
      unfold C4; simp only [Ap, C6 hj, cond_true]; have hb : A8 ((L.getD k []).getD j 0) (Fi L k j).length := ⟨a0, by rw [hlen]; exact a1⟩
      have hrow : ((Fi L k j).getD ((L.getD k []).getD j 0).toNat []).length ≤ k + 1 := by
        unfold Fi; rw [Hz (by omega), List.length_append]; have := J8 L k ((L.getD k []).getD j 0).toNat
        split
        · rw [List.length_singleton]; omega
        · rw [List.length_nil]; omega
      rw [Ad (Ef hj), Ad hb, Ad hb, Ad (by simp only [List.length_singleton]; omega), Ad hb, Wr L h k j hk hj, w1 (by omega)]
    · show C4 L (k : Int) (_, _) = _
      unfold C4; simp only [Ap, Et, cond_false]
  have r0 : ∀ k, Fi L k 0 = (List.range L.length).map (Es L k) := fun k => by
    unfold Fi
    apply Fq
    intro i _; simp [Jj]
  have r1 : ∀ k, Fi L k (L.getD k []).length = (List.range L.length).map (Es L (k + 1)) := fun k => by
    unfold Fi
    apply Fq
    intro i _; rw [Xq]; unfold Jj Nb; rw [List.take_length]
  have : Aw (C0 L) ((0 : Int), (List.range L.length).map (Es L 0)) = some (D4 L) := D6 (C0 L) (fun k => (((k : Nat) : Int), (List.range L.length).map (Es L k))) (D4 L) L.length (fun k hk => ?_) ?_
  · have e0 : (List.replicate L.length ([] : List Int)) = (List.range L.length).map (Es L 0) := by
      apply List.ext_getElem?
      intro i
      by_cases hi : i < L.length <;> simp [hi, List.getElem?_replicate, Es]
    rw [e0, this]; rfl
  · show C0 L (_, _) = _
    unfold C0; simp only [C6 hk, cond_true]; rw [Ad (Ef hk), ← r0, inner k hk, r1, w1 (by omega)]
    rfl
  · show C0 L (_, _) = _
    unfold C0; simp only [Et, cond_false]
    rfl
end
end Go.Proofs.Ytjpacggpipflcaa

namespace Go.Proofs.Ytjpacggpipflcaa
noncomputable section
open Go Go.RowKit
set_option linter.unusedVariables false
set_option linter.unusedSimpArgs false
theorem Li {α : Type} [DecidableEq α] {a b : List α} {d : α} (h : a.length = b.length) : ((List.range a.length).all fun i => decide (a.getD i d = b.getD i d)) = decide (a = b) := by
  rw [Bool.eq_iff_iff, all_range, decide_eq_true_eq]
  constructor
  · intro hall
    apply List.ext_getElem h
    intro i h1 h2; have := of_decide_eq_true (hall i h1); rwa [Ag _ _ _ h1, Ag _ _ _ h2] at this
  · rintro rfl i _
    simp
theorem Uy {a b : Nat} : (((a : Nat) : Int) != (b : Int)) = decide (a ≠ b) := by
  rw [Bool.eq_iff_iff, bne_iff_ne, decide_eq_true_eq]; omega
theorem Vu {a b : Int} : (a != b) = !decide (a = b) := by
  rw [Bool.eq_iff_iff]
  simp
theorem m_equal (a b : List Int) (hb : b.length < 4611686018427387904) : Di a b = some (decide (a = b)) := by
  unfold Di; rw [Uy]
  by_cases hl : a.length = b.length
  · rw [decide_eq_false (by simpa using hl), cond_false]; have : Aw (A9 a b) (0 : Int) = _ := Gh (A9 a b) (fun j => ((j : Nat) : Int)) (fun i => decide (a.getD i 0 = b.getD i 0)) (.inl ()) (.inr false) a.length (fun j hj hp => ?_) (fun j hj hp => ?_) ?_
    · rw [this, Li hl]
      cases decide (a = b) <;> rfl
    · show A9 a b (j : Int) = _
      unfold A9; simp only [Ap, C6 hj, cond_true]; rw [Ad (Ef hj), Ad (Ef (by omega)), Vu, hp, w1 (by omega)]
      rfl
    · show A9 a b (j : Int) = _
      unfold A9; simp only [Ap, C6 hj, cond_true]; rw [Ad (Ef hj), Ad (Ef (by omega)), Vu, hp]
      rfl
    · show A9 a b _ = _
      unfold A9; simp only [Et, cond_false]
  · rw [decide_eq_true (by simpa using hl), cond_true, decide_eq_false (fun h => hl (by rw [h]))]
theorem m_ints (a b : List Int) (ha : a.length < 4611686018427387904) : Cr a b = some (decide (a = b)) := by
  unfold Cr; rw [Uy]
  by_cases hl : a.length = b.length
  · rw [decide_eq_false (by simpa using hl), cond_false]; have : Aw (Bj a b) (0 : Int) = _ := Gh (Bj a b) (fun j => ((j : Nat) : Int)) (fun i => decide (a.getD i 0 = b.getD i 0)) (.inl ()) (.inr false) a.length (fun j hj hp => ?_) (fun j hj hp => ?_) ?_
    · rw [this, Li hl]
      cases decide (a = b) <;> rfl
    · show Bj a b (j : Int) = _
      unfold Bj; simp only [Ap, C6 hj, cond_true]; rw [Ad (Ef hj), Ad (Ef (by omega)), Vu, hp, w1 (by omega)]
      rfl
    · show Bj a b (j : Int) = _
      unfold Bj; simp only [Ap, C6 hj, cond_true]; rw [Ad (Ef hj), Ad (Ef (by omega)), Vu, hp]
      rfl
    · show Bj a b _ = _
      unfold Bj; simp only [Et, cond_false]
  · rw [decide_eq_true (by simpa using hl), cond_true, decide_eq_false (fun h => hl (by rw [h]))]
theorem Xw (a b : List (List Int)) (hb : Fits b) : Bv a b = some (decide (a = b)) := by
  unfold Bv; rw [Uy]
  by_cases hl : a.length = b.length
  · rw [decide_eq_false (by simpa using hl), cond_false]; have hb1 := hb.1; have : Aw (As a b) (0 : Int) = _ := Gh (As a b) (fun j => ((j : Nat) : Int)) (fun i => decide (a.getD i [] = b.getD i [])) (.inl ()) (.inr false) a.length (fun j hj hp => ?_) (fun j hj hp => ?_) ?_
    · rw [this, Li hl]
      cases decide (a = b) <;> rfl
    · show As a b (j : Int) = _
      unfold As; simp only [Ap, C6 hj, cond_true]; rw [Ad (Ef hj), Ad (Ef (by omega)), m_equal _ _ (hb.at j), hp, w1 (by omega)]
      rfl
    · show As a b (j : Int) = _
      unfold As; simp only [Ap, C6 hj, cond_true]; rw [Ad (Ef hj), Ad (Ef (by omega)), m_equal _ _ (hb.at j), hp]
      rfl
    · show As a b _ = _
      unfold As; simp only [Et, cond_false]
  · rw [decide_eq_true (by simpa using hl), cond_true, decide_eq_false (fun h => hl (by rw [h]))]
theorem Kp (L : List (List Int)) : (D4 L).length = L.length := by simp [D4]
theorem Pa {L : List (List Int)} {i : Nat} (hi : i < L.length) : (D4 L).getD i [] = Es L L.length i := by unfold D4; rw [Hz hi]
theorem Ob {L : List (List Int)} (h : Ex L = true) : (D4 L).length ≤ 64 ∧ ∀ l ∈ D4 L, l.length ≤ 64 := by
  obtain ⟨h1, _⟩ := Ju h; refine ⟨by rw [Kp]; exact h1, fun l hl => ?_⟩; obtain ⟨i, hi, rfl⟩ := List.mem_map.1 hl; have := J8 L L.length i; omega
theorem Ih {L : List (List Int)} (h : L.length ≤ 64 ∧ ∀ l ∈ L, l.length ≤ 64) : Fits L := fits_of ⟨by omega, fun l hl => by have := h.2 l hl; omega⟩
theorem small_k {L : List (List Int)} (h : L.length ≤ 64 ∧ ∀ l ∈ L, l.length ≤ 64) : L.length ≤ 1000 ∧ ∀ l ∈ L, l.length ≤ 1000 := ⟨by omega, fun l hl => by have := h.2 l hl; omega⟩
def H2 (g : Ao) : Bool := Ex g.Succ && decide (g.Pred = D4 g.Succ)
theorem m_may (g : Ao) (h : Fits g.Succ) : Gk g = some (H2 g) := by
  unfold Gk H2; rw [Uc _ h, Option.bind_some]
  cases hm : Ex g.Succ with
  | false => rfl
  | true =>
    simp only [beq_self_eq_true, cond_true, W1 _ hm, Option.bind_some, Xw _ _ (Ih (Ob hm)), Bool.true_and]
def Jn (L : List (List Int)) : Ao := ⟨L, D4 L⟩
def g0 : Ao := ⟨[], []⟩
theorem Zb (L : List (List Int)) (h : Fits L) : Ek L = some (bif Ex L then (Jn L, 0) else (g0, 5)) := by
  unfold Ek; rw [Uc _ h, Option.bind_some]
  cases hm : Ex L with
  | false => rfl
  | true =>
    simp only [Bool.not_true, cond_false, m_copied _ (small_k (Ju hm)), W1 _ hm, Option.bind_some]
    rfl
theorem N4 {L : List (List Int)} (h : Ex L = true) : H2 (Jn L) = true := by simp [H2, Jn, h]
theorem m_has (l : List Int) (x : Int) (h : l.length < 4611686018427387904) : Dl l x = some (l.contains x) := by
  unfold Dl; have : Aw (Bm l x) (0 : Int) = _ := Gh (Bm l x) (fun j => ((j : Nat) : Int)) (fun i => !decide (l.getD i 0 = x)) (.inl ()) (.inr true) l.length (fun j hj hp => ?_) (fun j hj hp => ?_) ?_
  · rw [this]
    have e : l.contains x = !((List.range l.length).all fun i => !decide (l.getD i 0 = x)) := by
      rw [Bool.eq_iff_iff, List.contains_iff_mem, Bool.not_eq_true', ← Bool.not_eq_true, all_range]
      constructor
      · intro hx hall; obtain ⟨i, hi, rfl⟩ := List.getElem_of_mem hx; have := hall i hi; rw [Ag _ _ _ hi] at this; simp at this
      · intro hall
        by_cases hx : x ∈ l
        · exact hx
        · refine (hall fun i hi => ?_).elim; rw [Ag _ _ _ hi]; simp only [Bool.not_eq_true', decide_eq_false_iff_not]; rintro rfl; exact hx (List.getElem_mem hi)
    rw [e]
    cases (List.range l.length).all fun i => !decide (l.getD i 0 = x) <;> rfl
  · show Bm l x (j : Int) = _
    unfold Bm; simp only [Ap, C6 hj, cond_true]
    have : (l.getD j 0 == x) = false := by simpa using hp
    rw [Ad (Ef hj), this, w1 (by omega)]
    rfl
  · show Bm l x (j : Int) = _
    unfold Bm; simp only [Ap, C6 hj, cond_true]
    have : (l.getD j 0 == x) = true := by simpa using hp
    rw [Ad (Ef hj), this]
    rfl
  · show Bm l x _ = _
    unfold Bm; simp only [Et, cond_false]
end
end Go.Proofs.Ytjpacggpipflcaa

namespace Go.Proofs.Ytjpacggpipflcaa
noncomputable section
open Go Go.RowKit
set_option linter.unusedVariables false
set_option linter.unusedSimpArgs false
theorem chk_imp {R : Type} {c : Bool} {q : Prop} [Decidable q] {k : Option R} (h : q) : Cl (c = true → q) k = k := Ad fun _ => h
theorem N9 {L : List (List Int)} (h : Ex L = true) : Fits (Jn L).Succ ∧ Fits (Jn L).Pred := ⟨Ih (Ju h), Ih (Ob h)⟩
def Vn (L : List (List Int)) : Bool := (List.range L.length).all fun i => decide ((L.getD i []).length ≤ 100) && decide (i ≤ 100)
theorem m_small (L : List (List Int)) (hL : L.length < 9223372036854775808) : C5 L = some (Vn L) := by
  unfold C5
  have step : ∀ j : Nat, j < L.length → Bf L (j : Int) = bif (decide ((L.getD j []).length ≤ 100) && decide (j ≤ 100)) then some (.next (((j + 1 : Nat) : Int))) else some (.done (.inr false)) := fun j hj => by
    unfold Bf; simp only [Ap, C6 hj, cond_true]; rw [Ad (Ef hj)]
    have hw : A0 ((j : Int) + 1) = ((j + 1 : Nat) : Int) := by rw [Gr (by omega) (by omega)]; omega
    rw [hw]
    by_cases h1 : (L.getD j []).length ≤ 100
    · rw [decide_eq_true h1, decide_eq_false (show ¬ (100 : Int) < ((L.getD j []).length : Int) by omega)]
      by_cases h2 : j ≤ 100
      · rw [decide_eq_true h2, decide_eq_false (show ¬ (100 : Int) < (j : Int) by omega)]; rfl
      · rw [decide_eq_false h2, decide_eq_true (show (100 : Int) < (j : Int) by omega)]; rfl
    · rw [decide_eq_false h1, decide_eq_true (show (100 : Int) < ((L.getD j []).length : Int) by omega)]; rfl
  have : Aw (Bf L) (0 : Int) = _ := Gh (Bf L) (fun j => ((j : Nat) : Int)) (fun i => decide ((L.getD i []).length ≤ 100) && decide (i ≤ 100)) (.inl ()) (.inr false) L.length (fun j hj hp => ?_) (fun j hj hp => ?_) ?_
  · rw [this]; unfold Vn
    cases (List.range L.length).all fun i => decide ((L.getD i []).length ≤ 100) && decide (i ≤ 100) <;> rfl
  · show Bf L (j : Int) = _
    rw [step j hj, hp]; rfl
  · show Bf L (j : Int) = _
    rw [step j hj, hp]; rfl
  · show Bf L _ = _
    unfold Bf; simp only [Et, cond_false]
end
end Go.Proofs.Ytjpacggpipflcaa

namespace Go.Proofs.Ytjpacggpipflcaa
noncomputable section
open Go Go.RowKit
set_option linter.unusedVariables false
set_option linter.unusedSimpArgs false
def upd (s : Nat → Bool) (y : Nat) : Nat → Bool := fun z => decide (z = y) || s z
theorem upd_true {s : Nat → Bool} {y z : Nat} : upd s y z = true ↔ z = y ∨ s z = true := by simp [upd]
theorem upd_false {s : Nat → Bool} {y z : Nat} : upd s y z = false ↔ z ≠ y ∧ s z = false := by simp [upd]
inductive VL (S : Nat → List Nat) : (Nat → Bool) → List Nat → (Nat → Bool) → List Nat → Prop
  | nil (s : Nat → Bool) : VL S s [] s []
  | skip {s s' : Nat → Bool} {y : Nat} {l o : List Nat} (h : s y = true) (t : VL S s l s' o) : VL S s (y :: l) s' o
  | step {s s1 s2 : Nat → Bool} {y : Nat} {l o1 o2 : List Nat} (h : s y = false) (a : VL S (upd s y) (S y) s1 o1) (b : VL S s1 l s2 o2) : VL S s (y :: l) s2 (o1 ++ y :: o2)
inductive Rch (S : Nat → List Nat) : Nat → Nat → Prop
  | refl (x : Nat) : Rch S x x
  | head {x y z : Nat} (h : y ∈ S x) (t : Rch S y z) : Rch S x z
theorem Rch.tail {S : Nat → List Nat} {x y z : Nat} (h : Rch S x y) (hz : z ∈ S y) : Rch S x z := by
  induction h with
  | refl x => exact .head hz (.refl _)
  | head h _ ih => exact .head h (ih hz)
theorem Rch.trans {S : Nat → List Nat} {x y z : Nat} (h : Rch S x y) (k : Rch S y z) : Rch S x z := by
  induction h with
  | refl x => exact k
  | head h _ ih => exact .head h (ih k)
variable {S : Nat → List Nat} {s s' : Nat → Bool} {l o : List Nat}
theorem VL.seen (h : VL S s l s' o) (z : Nat) : s' z = true ↔ s z = true ∨ z ∈ o := by
  induction h with
  | nil s => simp
  | skip h _ ih => exact ih
  | @step s s1 s2 y l o1 o2 h a b iha ihb =>
    rw [ihb, iha, upd_true]; simp only [List.mem_append, List.mem_cons]
    constructor
    · rintro ((( rfl | h1) | h1) | h1)
      · exact .inr (.inr (.inl rfl))
      · exact .inl h1
      · exact .inr (.inl h1)
      · exact .inr (.inr (.inr h1))
    · rintro (h1 | h1 | rfl | h1)
      · exact .inl (.inl (.inr h1))
      · exact .inl (.inr h1)
      · exact .inl (.inl (.inl rfl))
      · exact .inr h1
theorem VL.fresh (h : VL S s l s' o) {z : Nat} (hz : z ∈ o) : s z = false := by
  induction h with
  | nil s => cases hz
  | skip h _ ih => exact ih hz
  | @step s s1 s2 y l o1 o2 h a b iha ihb =>
    rcases List.mem_append.1 hz with h1 | h1
    · exact (upd_false.1 (iha h1)).2
    · rcases List.mem_cons.1 h1 with rfl | h1
      · exact h
      · have := ihb h1
        cases hs : s z with
        | false => rfl
        | true => rw [(a.seen z).2 (.inl (upd_true.2 (.inr hs)))] at this; cases this
theorem VL.nodup (h : VL S s l s' o) : o.Nodup := by
  induction h with
  | nil s => exact List.nodup_nil
  | skip h _ ih => exact ih
  | @step s s1 s2 y l o1 o2 h a b iha ihb =>
    rw [List.nodup_append]; refine ⟨iha, List.nodup_cons.2 ⟨fun hy => ?_, ihb⟩, fun u hu v hv => ?_⟩
    · have := b.fresh hy; rw [(a.seen y).2 (.inl (upd_true.2 (.inl rfl)))] at this
      cases this
    · rintro rfl; rcases List.mem_cons.1 hv with rfl | hv
      · have := a.fresh hu; rw [upd_true.2 (.inl rfl)] at this
        cases this
      · have := b.fresh hv; rw [(a.seen u).2 (.inr hu)] at this
        cases this
theorem VL.rch (h : VL S s l s' o) {z : Nat} (hz : z ∈ o) : ∃ y ∈ l, Rch S y z := by
  induction h with
  | nil s => cases hz
  | skip h _ ih => obtain ⟨y, hy, hr⟩ := ih hz; exact ⟨y, List.mem_cons_of_mem _ hy, hr⟩
  | @step s s1 s2 y l o1 o2 h a b iha ihb =>
    rcases List.mem_append.1 hz with h1 | h1
    · obtain ⟨u, hu, hr⟩ := iha h1; exact ⟨y, List.mem_cons_self .., .head hu hr⟩
    · rcases List.mem_cons.1 h1 with rfl | h1
      · exact ⟨z, List.mem_cons_self .., .refl z⟩
      · obtain ⟨u, hu, hr⟩ := ihb h1; exact ⟨u, List.mem_cons_of_mem _ hu, hr⟩
theorem VL.closed (h : VL S s l s' o) : (∀ y ∈ l, s' y = true) ∧ ∀ z ∈ o, ∀ y ∈ S z, s' y = true := by
  induction h with
  | nil s => exact ⟨(fun _ h => by cases h), (fun _ h => by cases h)⟩
  | @skip s s' y l o h t ih =>
    refine ⟨fun u hu => ?_, ih.2⟩; rcases List.mem_cons.1 hu with rfl | hu
    · exact (t.seen u).2 (.inl h)
    · exact ih.1 u hu
  | @step s s1 s2 y l o1 o2 h a b iha ihb =>
    refine ⟨fun u hu => ?_, fun z hz u hu => ?_⟩
    · rcases List.mem_cons.1 hu with rfl | hu
      · exact (b.seen u).2 (.inl ((a.seen u).2 (.inl (upd_true.2 (.inl rfl)))))
      · exact ihb.1 u hu
    · rcases List.mem_append.1 hz with h1 | h1
      · exact (b.seen u).2 (.inl (iha.2 z h1 u hu))
      · rcases List.mem_cons.1 h1 with rfl | h1
        · exact (b.seen u).2 (.inl (iha.1 u hu))
        · exact ihb.2 z h1 u hu
theorem VL.above (h : VL S s l s' o) (hf : ∀ z, ∀ y ∈ S z, z < y) {b : Nat} (hb : ∀ y ∈ l, b < y) : ∀ z ∈ o, b < z := by
  induction h generalizing b with
  | nil s => intro z hz; cases hz
  | skip h _ ih => exact ih (fun y hy => hb y (List.mem_cons_of_mem _ hy))
  | @step s s1 s2 y l o1 o2 h a c iha ihb =>
    intro z hz; have hy := hb y (List.mem_cons_self ..); rcases List.mem_append.1 hz with h1 | h1
    · exact iha (fun u hu => Nat.lt_trans hy (hf y u hu)) z h1
    · rcases List.mem_cons.1 h1 with rfl | h1
      · exact hy
      · exact ihb (fun u hu => hb u (List.mem_cons_of_mem _ hu)) z h1
theorem VL.ahead (h : VL S s l s' o) (hf : ∀ z, ∀ y ∈ S z, z < y) : ∀ z ∈ o, ∀ y ∈ S z, s y = true ∨ ∃ A B, o = A ++ z :: B ∧ y ∈ A := by
  induction h with
  | nil s => intro z hz; cases hz
  | skip h _ ih => exact ih
  | @step s s1 s2 y l o1 o2 h a c iha ihb =>
    intro z hz u hu; rcases List.mem_append.1 hz with h1 | h1
    · have hzy : y < z := a.above hf (fun v hv => hf y v hv) z h1; have hzu := hf z u hu; rcases iha z h1 u hu with h2 | ⟨A, B, rfl, hA⟩
      · rcases upd_true.1 h2 with rfl | h2
        · omega
        · exact .inl h2
      · exact .inr ⟨A, B ++ y :: o2, by simp, hA⟩
    · rcases List.mem_cons.1 h1 with rfl | h1z
      · have hzu := hf z u hu; rcases (a.seen u).1 (a.closed.1 u hu) with h2 | h2
        · rcases upd_true.1 h2 with rfl | h2
          · omega
          · exact .inl h2
        · exact .inr ⟨o1, o2, rfl, h2⟩
      · rcases ihb z h1z u hu with h2 | ⟨A, B, rfl, hA⟩
        · rcases (a.seen u).1 h2 with h3 | h3
          · rcases upd_true.1 h3 with rfl | h3
            · obtain ⟨P, Q, rfl⟩ := List.append_of_mem h1z; exact .inr ⟨o1 ++ u :: P, Q, by simp, by simp⟩
            · exact .inl h3
          · obtain ⟨P, Q, rfl⟩ := List.append_of_mem h1z; exact .inr ⟨o1 ++ y :: P, Q, by simp, by simp [h3]⟩
        · exact .inr ⟨o1 ++ y :: A, B, by simp, by simp [hA]⟩
def S9 (n : Nat) (s : Nat → Bool) : Nat := ((List.range n).filter fun z => !s z).length
theorem Ks {n : Nat} {s : Nat → Bool} {y : Nat} (hy : y < n) (h : s y = false) : S9 n (upd s y) + 1 = S9 n s := by
  unfold S9
  induction n with
  | zero => omega
  | succ n ih =>
    rw [List.range_succ, List.filter_append, List.filter_append, List.length_append, List.length_append]
    by_cases hyn : y = n
    · subst hyn
      have e : (List.range y).filter (fun z => !upd s y z) = (List.range y).filter (fun z => !s z) := by
        apply List.filter_congr
        intro z hz; have := List.mem_range.1 hz; simp [upd, show z ≠ y by omega]
      rw [e]; simp [upd, h]
    · have := ih (by omega)
      have e : ([n].filter fun z => !upd s y z).length = ([n].filter fun z => !s z).length := by
        simp only [List.filter_cons, List.filter_nil, upd]; simp [Ne.symm hyn]
      omega
theorem Wa {n : Nat} {s s' : Nat → Bool} (h : ∀ z, s z = true → s' z = true) : S9 n s' ≤ S9 n s := by
  unfold S9
  apply List.Sublist.length_le
  have : (List.range n).filter (fun z => !s' z) = ((List.range n).filter fun z => !s z).filter fun z => !s' z := by
    rw [List.filter_filter]
    apply List.filter_congr
    intro z _
    cases hs : s z with
    | false => simp
    | true => simp [h z hs]
  rw [this]; exact List.filter_sublist
theorem VL.exist {n : Nat} (hS : ∀ z, z < n → ∀ y ∈ S z, y < n) : ∀ (m : Nat) (s : Nat → Bool), S9 n s ≤ m → ∀ l : List Nat, (∀ y ∈ l, y < n) → ∃ s' o, VL S s l s' o := by
  intro m
  induction m with
  | zero =>
    intro s hm l
    induction l with
    | nil => intro _; exact ⟨s, [], .nil s⟩
    | cons y l ih =>
      intro hl; obtain ⟨s', o, h⟩ := ih (fun z hz => hl z (List.mem_cons_of_mem _ hz))
      cases hy : s y with
      | true => exact ⟨s', o, .skip hy h⟩
      | false => have := Ks (hl y (List.mem_cons_self ..)) hy; omega
  | succ m ih =>
    intro s hm l
    induction l generalizing s with
    | nil => intro _; exact ⟨s, [], .nil s⟩
    | cons y l ihl =>
      intro hl
      cases hy : s y with
      | true =>
        obtain ⟨s', o, h⟩ := ihl s hm (fun z hz => hl z (List.mem_cons_of_mem _ hz)); exact ⟨s', o, .skip hy h⟩
      | false =>
        have hyn := hl y (List.mem_cons_self ..); have := Ks hyn hy; obtain ⟨s1, o1, h1⟩ := ih (upd s y) (by omega) (S y) (hS y hyn); have h2 : S9 n s1 ≤ S9 n s := Wa fun z hz => (h1.seen z).2 (.inl (upd_true.2 (.inr hz))); obtain ⟨s2, o2, h3⟩ := ihl s1 (by omega) (fun z hz => hl z (List.mem_cons_of_mem _ hz)); exact ⟨s2, _, .step hy h1 h3⟩
def one (r : Nat) : Nat → Bool := fun z => decide (z = r)
def Ord (S : Nat → List Nat) (r : Nat) (L : List Nat) : Prop := ∃ s' o, VL S (one r) (S r) s' o ∧ L = r :: o.reverse
theorem Ord.exist {n : Nat} (hS : ∀ z, z < n → ∀ y ∈ S z, y < n) {r : Nat} (hr : r < n) : ∃ L, Ord S r L := by
  obtain ⟨s', o, h⟩ := VL.exist hS _ (one r) (Nat.le_refl _) (S r) (hS r hr); exact ⟨_, s', o, h, rfl⟩
theorem Ord.mem {r : Nat} {L : List Nat} (h : Ord S r L) (z : Nat) : z ∈ L ↔ Rch S r z := by
  obtain ⟨s', o, h, rfl⟩ := h
  have hs : ∀ z, s' z = true ↔ z = r ∨ z ∈ o := fun z => by rw [h.seen]; simp [one]
  have hc : ∀ x, s' x = true → ∀ y ∈ S x, s' y = true := fun x hx y hy => by
    rcases (hs x).1 hx with rfl | hx
    · exact h.closed.1 y hy
    · exact h.closed.2 x hx y hy
  simp only [List.mem_cons, List.mem_reverse]; rw [← hs z]
  constructor
  · intro hz; rcases (hs z).1 hz with rfl | hz
    · exact .refl _
    · obtain ⟨y, hy, hr⟩ := h.rch hz; exact .head hy hr
  · intro hr
    have key : ∀ x z, Rch S x z → s' x = true → s' z = true := by
      intro x z hxz
      induction hxz with
      | refl x => exact id
      | head hy _ ih => exact fun hx => ih (hc _ hx _ hy)
    exact key r z hr ((hs r).2 (.inl rfl))
theorem Ord.nodup {r : Nat} {L : List Nat} (h : Ord S r L) : L.Nodup := by
  obtain ⟨s', o, h, rfl⟩ := h; refine List.nodup_cons.2 ⟨fun hr => ?_, (List.reverse_perm o).nodup_iff.2 h.nodup⟩; have := h.fresh (List.mem_reverse.1 hr); simp [one] at this
theorem Ord.fwd {r : Nat} {L : List Nat} (h : Ord S r L) (hf : ∀ z, ∀ y ∈ S z, z < y) : ∀ z ∈ L, ∀ y ∈ S z, ∃ A B, L = A ++ z :: B ∧ y ∈ B := by
  obtain ⟨s', o, h, rfl⟩ := h; intro z hz y hy; have hzy := hf z y hy; rcases List.mem_cons.1 hz with rfl | hz
  · refine ⟨[], o.reverse, rfl, ?_⟩; rcases (h.seen y).1 (h.closed.1 y hy) with h1 | h1
    · simp [one] at h1; omega
    · exact List.mem_reverse.2 h1
  · have hz := List.mem_reverse.1 hz; have hrz : r < z := h.above hf (fun v hv => hf r v hv) z hz; rcases h.ahead hf z hz y hy with h1 | ⟨A, B, rfl, hA⟩
    · simp [one] at h1; omega
    · exact ⟨r :: B.reverse, A.reverse, by simp, List.mem_reverse.2 hA⟩
end
end Go.Proofs.Ytjpacggpipflcaa

namespace Go.Proofs.Ytjpacggpipflcaa
noncomputable section
open Go Go.RowKit
set_option linter.unusedVariables false
set_option linter.unusedSimpArgs false
theorem m_reverse (l : List Int) (hl : l.length < 4611686018427387904) : Co l = some l.reverse := by
  unfold Co
  by_cases h0 : l.length = 0
  · obtain rfl : l = [] := List.length_eq_zero_iff.1 h0
    have : Aw A5 ((0 : Int), (A0 ((([] : List Int).length : Int) - 1)), ([] : List Int)) = some [] := by
      apply A7
      unfold A5; rw [Gr (by simp) (by simp)]
      rfl
    rw [this]; rfl
  · have hw : A0 ((l.length : Int) - 1) = ((l.length - 1 : Nat) : Int) := by rw [Gr (by omega) (by omega)]; omega
    rw [hw]
    let C : Nat → List Int := fun k => (List.range l.length).map fun i => if i < k ∨ l.length - 1 - k < i then l.getD (l.length - 1 - i) 0 else l.getD i 0
    have hC : ∀ k i, i < l.length → (C k).getD i 0 = if i < k ∨ l.length - 1 - k < i then l.getD (l.length - 1 - i) 0 else l.getD i 0 := fun k i hi => by simp only [C]; rw [Hz hi]
    have hlen : ∀ k, (C k).length = l.length := fun k => by simp [C]
    have := D6 A5 (fun k => (((k : Nat) : Int), ((l.length - 1 - k : Nat) : Int), C k)) l.reverse (l.length / 2) (fun k hk => ?_) ?_
    · have e0 : C 0 = l := by
        apply List.ext_getElem (by simp [C])
        intro i h1 h2; have := hC 0 i h2; rw [Ag _ _ _ h1, Ag _ _ _ h2] at this; rw [this, if_neg (by omega)]
      have this' : Aw A5 ((0 : Int), ((l.length - 1 : Nat) : Int), l) = some l.reverse := by
        have h2 := this; simp only [e0] at h2; exact h2
      rw [this']; rfl
    · show A5 (_, _, _) = _
      unfold A5
      have hlt : k < l.length - 1 - k := by omega
      simp only [C6 hlt, cond_true, Ap]; rw [Ad (Ef (by rw [hlen]; omega)), Ad (Ef (by rw [hlen]; omega)), Ad (Ef (by rw [hlen]; omega)), Ad (Ef (by rw [hlen]; omega))]; rw [w1 (by omega), show A0 (((l.length - 1 - k : Nat) : Int) - 1) = ((l.length - 1 - (k + 1) : Nat) : Int) by rw [Gr (by omega) (by omega)]; omega]
      congr 4
      rw [hC k _ (by omega), hC k _ (by omega), if_neg (by omega), if_neg (by omega)]; simp only [C]; rw [Lo, Lo]
      apply Fq
      intro i hi
      by_cases h1 : i = k
      · subst h1; rw [if_neg (by omega), if_pos rfl, if_pos (by omega)]
      · by_cases h2 : i = l.length - 1 - k
        · subst h2; rw [if_pos rfl, if_pos (by omega)]
          congr 1; omega
        · rw [if_neg h2, if_neg h1]
          by_cases h3 : i < k ∨ l.length - 1 - k < i
          · rw [if_pos h3, if_pos (by omega)]
          · rw [if_neg h3, if_neg (by omega)]
    · show A5 (_, _, _) = _
      unfold A5; have hd : decide (((l.length / 2 : Nat) : Int) < ((l.length - 1 - l.length / 2 : Nat) : Int)) = false := decide_eq_false (by omega); simp only [hd, cond_false]
      congr 2
      apply List.ext_getElem (by simp [C])
      intro i h1 h2
      have h3 : i < l.length := by simpa [C] using h1
      have := hC (l.length / 2) i h3; rw [Ag _ _ _ h1] at this; rw [this, List.getElem_reverse]
      split
      · rw [Ag _ _ _ (by omega)]
      · rw [Ag _ _ _ h3]
        congr 1; omega
theorem top {st : List Int} {a : Int} (h : st.length < 4611686018427387904) : (st ++ [a]).getD (A0 (((st ++ [a]).length : Int) - 1)).toNat 0 = a := by
  have : A0 (((st ++ [a]).length : Int) - 1) = ((st.length : Nat) : Int) := by rw [List.length_append, List.length_singleton, Gr (by omega) (by omega)]; omega
  rw [this, Ap]; simp [List.getD]
theorem topi {st : List Int} {a : Int} (h : st.length < 4611686018427387904) : A0 (((st ++ [a]).length : Int) - 1) = ((st.length : Nat) : Int) := by
  rw [List.length_append, List.length_singleton, Gr (by omega) (by omega)]; omega
theorem L2_done {g : Ao} {R : List Bool} {st T : List Int} {a : Nat} (hst : st.length < 64) (ha : a < g.Succ.length) (h64 : g.Succ.length ≤ 64) (ht : T.getD a 0 = ((g.Succ.getD a []).length : Int)) :
    Dr g R (st ++ [(a : Int)]) T = some (.done (.inl T)) := by
  unfold Dr; simp only [top (st := st) (a := (a : Int)) (by omega), Ap]; rw [Ad (Ef (by omega)), Ad (Ef ha), ht, Et, cond_false]
theorem L2_step {g : Ao} {R : List Bool} {st T : List Int} {a t y : Nat} (hst : st.length < 64) (ha : a < g.Succ.length) (h64 : g.Succ.length ≤ 64) (ht : T.getD a 0 = (t : Int)) (htl : t < (g.Succ.getD a []).length) (htm : t < 64)
    (hy : (g.Succ.getD a []).getD t 0 = (y : Int)) (hyn : y < g.Succ.length) :
    Dr g R (st ++ [(a : Int)]) T = bif R.getD y false then some (.next (Dp 64 (0 : Int) T a ((t + 1 : Nat) : Int))) else some (.done (.inr (Dp 64 false R y true, Dp 64 (0 : Int) T a ((t + 1 : Nat) : Int), (st ++ [(a : Int)]) ++ [(y : Int)]))) := by
  have hroom : (1000 : Nat) ≤ room := by decide
  unfold Dr; simp only [top (st := st) (a := (a : Int)) (by omega), Ap, ht, hy]; rw [Ad (Ef (by omega)), Ad (Ef ha), C6 htl, cond_true, Ad (Ef ha), Ad (Ef (by omega)), Ad (Ef htl), Ad (Ef (by omega)), Ad (Ef (by omega)), Ad (Ef (by omega)), w1 (by omega)]
  cases R.getD y false with
  | true => rfl
  | false =>
    simp only [Bool.not_false, cond_true, cond_false]; rw [Ad (Ef (by omega)), Ad (by rw [List.length_append, List.length_singleton, List.length_singleton]; omega)]
theorem F3_eq {g : Ao} {R : List Bool} {st T Lf : List Int} {a : Nat} (hst : st.length < 64) (hLf : Lf.length < 64) :
    Cb g (R, T, st ++ [(a : Int)], Lf) = (Aw (Dr g R (st ++ [(a : Int)])) T).bind fun x => match x with
      | .inl T' => if st = [] then some (.done (Lf ++ [(a : Int)]).reverse) else some (.next (R, T', st, Lf ++ [(a : Int)]))
      | .inr (R', T', st') => some (.next (R', T', st', Lf)) := by
  have hroom : (1000 : Nat) ≤ room := by decide
  unfold Cb; simp only
  have hb : A8 (A0 (((st ++ [(a : Int)]).length : Int) - 1)) (st ++ [(a : Int)]).length := by rw [topi (by omega)]; exact Ef (by simp)
  rw [Ad hb]
  congr 1
  funext x
  cases x with
  | inr y => obtain ⟨R', T', st'⟩ := y; rfl
  | inl T' =>
    simp only [top (st := st) (a := (a : Int)) (by omega)]; rw [topi (by omega), Ap, Ad (by rw [List.length_singleton]; omega), Ad ⟨by omega, by simp⟩]; have e : (st ++ [(a : Int)]).take st.length = st := List.take_left' rfl; rw [e]
    cases st with
    | nil =>
      rw [if_pos rfl]
      have : decide ((0 : Int) < (([] : List Int).length : Int)) = false := by decide
      rw [this, cond_false, m_reverse _ (by simp; omega)]; simp only [Option.bind_some]; rw [Ad (by simp)]
    | cons b st' =>
      rw [if_neg (by simp)]; have : decide ((0 : Int) < ((b :: st').length : Int)) = true := decide_eq_true (by simp <;> omega); rw [this, cond_true]
theorem Aad {S X : Type} {f : S → Option (LR S X)} {a b : S} (h : f a = f b) : Aw f a = Aw f b := by
  cases hb : f b with
  | none => rw [Np (h.trans hb), Np hb]
  | some r => cases r with
    | done x => rw [A7 (h.trans hb), A7 hb]
    | next s => rw [Bs (h.trans hb), Bs hb]
theorem Lm {S X : Type} {f : S → Option (LR S X)} {s : S} : Kq (f s) f = Aw f s := by
  unfold Kq
  cases hb : f s with
  | none => rw [Np hb]; rfl
  | some r => cases r with
    | done x => rw [A7 hb]; rfl
    | next s' => rw [Bs hb]; rfl
def sN (L : List (List Int)) (k : Nat) : List Nat := (L.getD k []).map Int.toNat
def RelS (R : List Bool) (s : Nat → Bool) : Prop := ∀ z, z < 64 → R.getD z false = s z
theorem Gt {α : Type} {d : α} {l : List α} {i : Nat} {x : α} {k : Nat} (hk : k < 64) : (Dp 64 d l i x).getD k d = if k = i then x else l.getD k d := by
  rw [T0 hk]
  by_cases h : k = i
  · subst h; simp
  · have : Nat.beq k i = false := by cases hb : Nat.beq k i with | false => rfl | true => exact absurd (Nat.eq_of_beq_eq_true hb) h
    rw [this, if_neg h]; rfl
theorem RelS.set {R : List Bool} {s : Nat → Bool} (h : RelS R s) {y : Nat} : RelS (Dp 64 false R y true) (upd s y) := fun z hz => by
  rw [Gt hz, h z hz]
  by_cases hzy : z = y
  · simp [upd, hzy]
  · simp [upd, hzy]
def Gn (o : List Nat) : List Int := o.map Int.ofNat
theorem Yw {g : Ao} (hm : Ex g.Succ = true) {s s' : Nat → Bool} {l o : List Nat} (hv : VL (sN g.Succ) s l s' o) :
    ∀ (R : List Bool) (T st Lf : List Int) (a t : Nat), RelS R s → a < g.Succ.length → l = (sN g.Succ a).drop t → T.getD a 0 = (t : Int) → t ≤ (sN g.Succ a).length → s a = true → (∀ z, z < 64 → s z = false → T.getD z 0 = 0) →
      Lf.length + S9 64 s + st.length + 1 ≤ 64 →
      ∃ (R' : List Bool) (T' : List Int), RelS R' s' ∧ (∀ z, z < 64 → s' z = false → T'.getD z 0 = 0) ∧ (∀ z, z < 64 → s z = true → z ≠ a → T'.getD z 0 = T.getD z 0) ∧ Lf.length + o.length + S9 64 s' + st.length + 1 ≤ 64 ∧
        Aw (Cb g) (R, T, st ++ [(a : Int)], Lf) = if st = [] then some (Lf ++ Gn o ++ [(a : Int)]).reverse else Aw (Cb g) (R', T', st, Lf ++ Gn o ++ [(a : Int)]) := by
  obtain ⟨hL1, hL64, hLok⟩ := mayS_iff.1 hm
  have hlenS : ∀ a, (sN g.Succ a).length = (g.Succ.getD a []).length := fun a => by simp [sN]
  have hdrop : ∀ (a t y : Nat) (l' : List Nat), a < g.Succ.length → y :: l' = (sN g.Succ a).drop t → t < (g.Succ.getD a []).length ∧ (g.Succ.getD a []).getD t 0 = (y : Int) ∧ y < g.Succ.length ∧ l' = (sN g.Succ a).drop (t + 1) := fun a t y l' ha he => by
    have ht : t < (sN g.Succ a).length := by
      rcases Nat.lt_or_ge t (sN g.Succ a).length with h | h
      · exact h
      · rw [List.drop_eq_nil_of_le h] at he; cases he
    rw [List.drop_eq_getElem_cons ht] at he; simp only [List.cons.injEq] at he; obtain ⟨h1, h2⟩ := he
    have ht' : t < (g.Succ.getD a []).length := by rw [← hlenS]; exact ht
    obtain ⟨b0, b1⟩ := O5 (hLok a ha) ht'
    have h3 : (sN g.Succ a)[t] = ((g.Succ.getD a []).getD t 0).toNat := by rw [Ag _ _ _ ht']; simp [sN]
    exact ⟨ht', by omega, by omega, h2⟩
  induction hv with
  | nil s =>
    intro R T st Lf a t hR ha hl hT htl hsa hz hc
    have ht : t = (g.Succ.getD a []).length := by
      have := congrArg List.length hl; simp at this; rw [hlenS] at htl this; omega
    refine ⟨R, T, hR, hz, fun _ _ _ _ => rfl, by simpa using hc, ?_⟩
    have hF : Cb g (R, T, st ++ [(a : Int)], Lf) = if st = [] then some (.done (Lf ++ [(a : Int)]).reverse) else some (.next (R, T, st, Lf ++ [(a : Int)])) := by
      rw [F3_eq (by omega) (by omega), A7 (L2_done (by omega) ha hL64 (by rw [hT, ht]))]
      rfl
    by_cases hst : st = []
    · rw [if_pos hst] at hF ⊢; rw [A7 hF]; simp [Gn]
    · rw [if_neg hst] at hF ⊢; rw [Bs hF]; simp [Gn]
  | @skip s s' y l o h tl ih =>
    intro R T st Lf a t hR ha hl hT htl hsa hz hc; obtain ⟨h1, h2, h3, h4⟩ := hdrop a t y l ha hl; have hb := Ka (hLok a ha); have hs := L2_step (g := g) (R := R) (st := st) (T := T) (a := a) (t := t) (y := y) (by omega) ha hL64 hT h1 (by omega) h2 h3; rw [hR y (by omega), h, cond_true] at hs; obtain ⟨R', T', a1, a2, a3, a4, a5⟩ := ih R (Dp 64 (0 : Int) T a ((t + 1 : Nat) : Int)) st Lf a (t + 1) hR ha h4 (by rw [Gt (by omega), if_pos rfl]) (by rw [hlenS]; omega) hsa
      (fun z hz1 hz2 => by rw [Gt hz1, if_neg (by rintro rfl; rw [hsa] at hz2; cases hz2)]; exact hz z hz1 hz2) hc
    refine ⟨R', T', a1, a2, fun z hz1 hz2 hz3 => by rw [a3 z hz1 hz2 hz3, Gt hz1, if_neg hz3], a4, ?_⟩; rw [← a5]
    apply Aad
    rw [F3_eq (by omega) (by omega), F3_eq (by omega) (by omega), Bs hs]
  | @step s s1 s2 y l o1 o2 h tl tr ih1 ih2 =>
    intro R T st Lf a t hR ha hl hT htl hsa hz hc; obtain ⟨h1, h2, h3, h4⟩ := hdrop a t y l ha hl; have hb := Ka (hLok a ha)
    have hay : y ≠ a := by rintro rfl; rw [hsa] at h; cases h
    have hs := L2_step (g := g) (R := R) (st := st) (T := T) (a := a) (t := t) (y := y) (by omega) ha hL64 hT h1 (by omega) h2 h3; rw [hR y (by omega), h, cond_false] at hs; have hcu := Ks (n := 64) (show y < 64 by omega) h
    have hF : Cb g (R, T, st ++ [(a : Int)], Lf) = some (.next (Dp 64 false R y true, Dp 64 (0 : Int) T a ((t + 1 : Nat) : Int), (st ++ [(a : Int)]) ++ [(y : Int)], Lf)) := by
      rw [F3_eq (by omega) (by omega), A7 hs]
      rfl
    obtain ⟨R1, T1, b1, b2, b3, b4, b5⟩ := ih1 (Dp 64 false R y true) (Dp 64 (0 : Int) T a ((t + 1 : Nat) : Int)) (st ++ [(a : Int)]) Lf y 0 hR.set h3 (by simp)
      (by rw [Gt (by omega), if_neg hay]; exact hz y (by omega) h) (Nat.zero_le _) (upd_true.2 (.inl rfl))
      (fun z hz1 hz2 => by
        obtain ⟨c1, c2⟩ := upd_false.1 hz2; rw [Gt hz1, if_neg (by rintro rfl; rw [hsa] at c2; cases c2)]
        exact hz z hz1 c2) (by rw [List.length_append, List.length_singleton]; omega)
    rw [if_neg (by simp)] at b5
    have hTa : T1.getD a 0 = ((t + 1 : Nat) : Int) := by rw [b3 a (by omega) (upd_true.2 (.inr hsa)) (Ne.symm hay), Gt (by omega), if_pos rfl]
    rw [List.length_append, List.length_singleton] at b4; obtain ⟨R2, T2, c1, c2, c3, c4, c5⟩ := ih2 R1 T1 st (Lf ++ Gn o1 ++ [(y : Int)]) a (t + 1) b1 ha h4 hTa (by rw [hlenS]; omega) ((tl.seen a).2 (.inl (upd_true.2 (.inr hsa)))) b2
      (by simp only [List.length_append, List.length_singleton, Gn, List.length_map]; omega)
    refine ⟨R2, T2, c1, c2, fun z hz1 hz2 hz3 => ?_, ?_, ?_⟩
    · rw [c3 z hz1 ((tl.seen z).2 (.inl (upd_true.2 (.inr hz2)))) hz3, b3 z hz1 (upd_true.2 (.inr hz2)) (by rintro rfl; rw [h] at hz2; cases hz2), Gt hz1, if_neg hz3]
    · simp only [List.length_append, List.length_singleton, Gn, List.length_map, List.length_cons] at c4 ⊢; omega
    · rw [Bs hF, b5, c5]
      have e : Lf ++ Gn o1 ++ [(y : Int)] ++ Gn o2 ++ [(a : Int)] = Lf ++ Gn (o1 ++ y :: o2) ++ [(a : Int)] := by simp [Gn]
      rw [e]
theorem I9 {L : List (List Int)} (h : Ex L = true) : ∀ z, z < L.length → ∀ y ∈ sN L z, y < L.length := fun z hz y hy => by
  obtain ⟨_, _, h3⟩ := mayS_iff.1 h; obtain ⟨x, hx, rfl⟩ := List.mem_map.1 hy; have := Gc (h3 z hz) hx; omega
theorem cnt_one {r : Nat} (hr : r < 64) : S9 64 (one r) = 63 := by
  have h := Ks (n := 64) (s := fun _ => false) hr rfl
  have e : upd (fun _ => false) r = one r := by funext z; simp [upd, one]
  rw [e] at h
  have : S9 64 (fun _ => false) = 64 := by decide
  omega
theorem F5 {α : Type} {n z : Nat} {d : α} : (List.replicate n d).getD z d = d := by rw [List.getD_eq_getElem?_getD, List.getElem?_replicate]; split <;> rfl
theorem Qp (g : Ao) (h : Fits g.Succ) (hP : True) (r : Int) :
    (H2 g = true → 0 ≤ r → r < (g.Succ.length : Int) → ∀ L, Ord (sN g.Succ) r.toNat L → C9 g r = some (Gn L)) ∧
    ((H2 g && (decide (0 ≤ r) && decide (r < (g.Succ.length : Int)))) = false → C9 g r = some []) := by
  refine ⟨fun hm h0 h1 L hL => ?_, fun hf => ?_⟩
  · have hms : Ex g.Succ = true := by unfold H2 at hm; exact (Bool.and_eq_true _ _ ▸ hm).1
    obtain ⟨hL1, hL64, hLok⟩ := mayS_iff.1 hms; obtain ⟨s', o, hv, rfl⟩ := hL; have hrn : ((r.toNat : Nat) : Int) = r := Int.toNat_of_nonneg h0
    have hr : r.toNat < g.Succ.length := by omega
    obtain ⟨R', T', _, _, _, _, hmain⟩ := Yw hms hv (Dp 64 false (List.replicate 64 false) r.toNat true) (List.replicate 64 (0 : Int)) [] [] r.toNat 0
      (fun z hz => by rw [Gt hz, F5]; by_cases hzr : z = r.toNat <;> simp [one, hzr]) hr (by simp) F5 (Nat.zero_le _) (by simp [one])
      (fun z hz _ => F5) (by rw [cnt_one (by omega)]; simp)
    rw [if_pos rfl, hrn] at hmain; unfold C9; rw [m_may _ h, hm, Option.bind_some]; simp only [Bool.not_true, beq_self_eq_true, cond_true, cond_false, Mp, decide_eq_true h0, decide_eq_true h1, Bool.and_self, Option.bind_some]; rw [Ad ⟨h0, by omega⟩]; have hF : ∀ X, Aw (Cb g) (Dp 64 false (List.replicate 64 false) r.toNat true, List.replicate 64 (0 : Int), [] ++ [r], []) = some X →
        (Kq (Cb g (Dp 64 false (List.replicate 64 false) r.toNat true, List.replicate 64 (0 : Int), [r], [])) (Cb g)).bind (fun x => some x) = some X := fun X hX => by
      rw [Lm]; rw [List.nil_append] at hX; rw [hX]; rfl
    refine (hF _ hmain).trans ?_; simp only [List.nil_append, List.reverse_append, Gn, List.map_cons, List.map_reverse, List.reverse_cons, List.reverse_nil]
    simp
    omega
  · unfold C9; rw [m_may _ h, Option.bind_some]
    cases hm : H2 g with
    | false => rfl
    | true =>
      rw [hm, Bool.true_and] at hf; simp only [Bool.not_true, beq_self_eq_true, cond_true, cond_false, Mp, hf, Option.bind_some, Bool.not_false]
      rfl
end
end Go.Proofs.Ytjpacggpipflcaa

namespace Go.Proofs.Ytjpacggpipflcaa
noncomputable section
open Go Go.RowKit
set_option linter.unusedVariables false
set_option linter.unusedSimpArgs false
def RelN (n : Nat) (R : List Bool) (s : Nat → Bool) : Prop := R.length = n ∧ ∀ z, z < n → R.getD z false = s z
theorem RelN.set {n : Nat} {R : List Bool} {s : Nat → Bool} (h : RelN n R s) {y : Nat} (hy : y < n) : RelN n (R.set y true) (upd s y) := by
  refine ⟨by rw [List.length_set]; exact h.1, fun z hz => ?_⟩; rw [List.getD_eq_getElem?_getD, List.getElem?_set]
  by_cases hzy : y = z
  · subst hzy; simp [upd, h.1, hy]
  · rw [if_neg hzy, ← List.getD_eq_getElem?_getD, h.2 z hz]; simp [upd, Ne.symm hzy]
theorem H8 : ∀ (n : Nat) (l : List Nat), l.Nodup → (∀ x ∈ l, x < n) → l.length ≤ n
  | 0, l, _, h => by
    cases l with
    | nil => simp
    | cons x l => have := h x (List.mem_cons_self ..); omega
  | n + 1, l, hd, h => by
    by_cases hn : n ∈ l
    · have h1 := H8 n (l.erase n) (hd.erase n) fun x hx => by
        have h2 := (hd.mem_erase_iff).1 hx; have := h x h2.2; have := h2.1; omega
      rw [List.length_erase_of_mem hn] at h1; omega
    · have h1 := H8 n l hd fun x hx => by
        have := h x hx
        have : x ≠ n := by rintro rfl; exact hn hx
        omega
      omega
end
end Go.Proofs.Ytjpacggpipflcaa

namespace Go.Proofs.Ytjpacggpipflcaa
noncomputable section
open Go Go.RowKit
set_option linter.unusedVariables false
set_option linter.unusedSimpArgs false
end
end Go.Proofs.Ytjpacggpipflcaa

namespace Go.Proofs.Ytjpacggpipflcaa
noncomputable section
open Go Go.RowKit
set_option linter.unusedVariables false
set_option linter.unusedSimpArgs false
theorem Nv : ∀ {a b : List Int}, a.Pairwise (· < ·) → b.Pairwise (· < ·) → (∀ x, x ∈ a ↔ x ∈ b) → a = b
  | [], [], _, _, _ => rfl
  | [], y :: b, _, _, h => by have := (h y).2 (List.mem_cons_self ..); cases this
  | x :: a, [], _, _, h => by have := (h x).1 (List.mem_cons_self ..); cases this
  | x :: a, y :: b, ha, hb, h => by
    have ha' := List.pairwise_cons.1 ha; have hb' := List.pairwise_cons.1 hb
    have hxy : x = y := by
      rcases List.mem_cons.1 ((h x).1 (List.mem_cons_self ..)) with h1 | h1
      · exact h1
      · rcases List.mem_cons.1 ((h y).2 (List.mem_cons_self ..)) with h2 | h2
        · exact h2.symm
        · have := ha'.1 y h2; have := hb'.1 x h1; omega
    subst hxy
    congr 1
    refine Nv ha'.2 hb'.2 fun z => ⟨fun hz => ?_, fun hz => ?_⟩
    · rcases List.mem_cons.1 ((h z).1 (List.mem_cons_of_mem _ hz)) with rfl | h1
      · have := ha'.1 z hz; omega
      · exact h1
    · rcases List.mem_cons.1 ((h z).2 (List.mem_cons_of_mem _ hz)) with rfl | h1
      · have := hb'.1 z hz; omega
      · exact h1
theorem Lu (p : Nat → Bool) (n : Nat) : (((List.range n).filter p).map Int.ofNat).Pairwise (· < ·) := by
  rw [List.pairwise_map]; have := (List.pairwise_lt_range (n := n)).filter p
  exact this.imp fun h => by simpa using h
theorem L4 {p : Nat → Bool} {n : Nat} {x : Int} : x ∈ ((List.range n).filter p).map Int.ofNat ↔ ∃ k : Nat, x = (k : Int) ∧ k < n ∧ p k = true := by
  simp only [List.mem_map, List.mem_filter, List.mem_range]
  constructor
  · rintro ⟨k, ⟨h1, h2⟩, rfl⟩; exact ⟨k, rfl, h1, h2⟩
  · rintro ⟨k, rfl, h1, h2⟩; exact ⟨k, ⟨h1, h2⟩, rfl⟩
theorem N0 {L : List (List Int)} {k i : Nat} : Nb L k i = true ↔ (i : Int) ∈ L.getD k [] := by unfold Nb; rw [List.contains_iff_mem]
end
end Go.Proofs.Ytjpacggpipflcaa

namespace Go.Proofs.Ytjpacggpipflcaa
noncomputable section
open Go Go.RowKit
set_option linter.unusedVariables false
set_option linter.unusedSimpArgs false
theorem mem_sN {L : List (List Int)} (h : Ex L = true) {x y : Nat} (hx : x < L.length) : y ∈ sN L x ↔ (y : Int) ∈ L.getD x [] := by
  obtain ⟨_, _, h3⟩ := mayS_iff.1 h; unfold sN; rw [List.mem_map]
  constructor
  · rintro ⟨z, hz, rfl⟩; have := Gc (h3 x hx) hz; rw [Int.toNat_of_nonneg this.1]; exact hz
  · intro hy; exact ⟨_, hy, Ap y⟩
theorem rch_lt {L : List (List Int)} (h : Ex L = true) {x y : Nat} (hr : Rch (sN L) x y) (hx : x < L.length) : y < L.length := by
  induction hr with
  | refl x => exact hx
  | head hy _ ih => exact ih (I9 h _ hx _ hy)
theorem ofN_at {l : List Nat} {i : Nat} (hi : i < l.length) : (Gn l).getD i 0 = ((l[i] : Nat) : Int) := by simp [Gn, List.getD, hi]
end
end Go.Proofs.Ytjpacggpipflcaa

namespace Go.Proofs.Ytjpacggpipflcaa
noncomputable section
open Go Go.RowKit
set_option linter.unusedVariables false
set_option linter.unusedSimpArgs false
end
end Go.Proofs.Ytjpacggpipflcaa

namespace Go.Proofs.Ytjpacggpipflcaa
noncomputable section
open Go Go.RowKit
set_option linter.unusedVariables false
set_option linter.unusedSimpArgs false
def mk (o : List Bool) (l : List Nat) : List Bool := l.foldl (fun o y => o.set y true) o
theorem mk_len (l : List Nat) : ∀ o : List Bool, (mk o l).length = o.length := by
  induction l with
  | nil => intro o; rfl
  | cons y l ih => intro o; show (mk (o.set y true) l).length = _; rw [ih, List.length_set]
theorem mk_at {n : Nat} (l : List Nat) : ∀ (o : List Bool), o.length = n → (∀ y ∈ l, y < n) → ∀ z, (mk o l).getD z false = true ↔ o.getD z false = true ∨ z ∈ l := by
  induction l with
  | nil => intro o _ _ z; simp [mk]
  | cons y l ih =>
    intro o ho hl z
    show (mk (o.set y true) l).getD z false = true ↔ _
    rw [ih (o.set y true) (by rw [List.length_set]; exact ho) (fun u hu => hl u (List.mem_cons_of_mem _ hu)) z]; have hy := hl y (List.mem_cons_self ..)
    have e : (o.set y true).getD z false = true ↔ o.getD z false = true ∨ z = y := by
      rw [List.getD_eq_getElem?_getD, List.getElem?_set, List.getD_eq_getElem?_getD]
      by_cases h : y = z
      · subst h; simp [ho, hy]
      · simp [h, Ne.symm h]
    rw [e, List.mem_cons]
    constructor
    · rintro ((h | h) | h)
      · exact .inl h
      · exact .inr (.inl h)
      · exact .inr (.inr h)
    · rintro (h | h | h)
      · exact .inl (.inl h)
      · exact .inl (.inr h)
      · exact .inr h
def sw (S : Nat → List Nat) (o : List Bool) : Nat → List Bool
  | 0 => o
  | i + 1 => if (sw S o i).getD i false = true then mk (sw S o i) (S i) else sw S o i
def Vd (S : Nat → List Nat) (n : Nat) (o : List Bool) : Nat → List Bool
  | 0 => o
  | j + 1 => sw S (Vd S n o j) n
section
variable {S : Nat → List Nat} {n : Nat} (hS : ∀ z, z < n → ∀ y ∈ S z, y < n)
theorem O7 (o : List Bool) : ∀ i, (sw S o i).length = o.length := by
  intro i
  induction i with
  | zero => rfl
  | succ i ih => unfold sw; split; rw [mk_len, ih]; exact ih
theorem rds_len (o : List Bool) : ∀ j, (Vd S n o j).length = o.length := by
  intro j
  induction j with
  | zero => rfl
  | succ j ih => unfold Vd; rw [O7, ih]
include hS
theorem Qi {o : List Bool} (ho : o.length = n) : ∀ i, i ≤ n → ∀ z, o.getD z false = true → (sw S o i).getD z false = true := by
  intro i
  induction i with
  | zero => intro _ z h; exact h
  | succ i ih =>
    intro hi z h; unfold sw
    split
    · exact (mk_at (n := n) _ _ (by rw [O7]; exact ho) (hS i (by omega)) z).2 (.inl (ih (by omega) z h))
    · exact ih (by omega) z h
theorem sw_sound {o : List Bool} {r : Nat} (ho : o.length = n) (h : ∀ z, o.getD z false = true → Rch S r z) : ∀ i, i ≤ n → ∀ z, (sw S o i).getD z false = true → Rch S r z := by
  intro i
  induction i with
  | zero => intro _ z hz; exact h z hz
  | succ i ih =>
    intro hi z hz; unfold sw at hz
    split at hz
    · rename_i hsi
      rcases (mk_at (n := n) _ _ (by rw [O7]; exact ho) (hS i (by omega)) z).1 hz with h1 | h1
      · exact ih (by omega) z h1
      · exact (ih (by omega) i hsi).tail h1
    · exact ih (by omega) z hz
theorem sw_step {o : List Bool} (ho : o.length = n) : ∀ i, i ≤ n → ∀ j, j < i → o.getD j false = true → ∀ y ∈ S j, (sw S o i).getD y false = true := by
  intro i
  induction i with
  | zero => intro _ j hj; omega
  | succ i ih =>
    intro hi j hj hoj y hy; unfold sw
    by_cases hji : j = i
    · subst hji; have h1 := Qi hS ho j (by omega) j hoj; rw [if_pos h1]; exact (mk_at (n := n) _ _ (by rw [O7]; exact ho) (hS j (by omega)) y).2 (.inr hy)
    · have h1 := ih (by omega) j (by omega) hoj y hy
      split
      · exact (mk_at (n := n) _ _ (by rw [O7]; exact ho) (hS i (by omega)) y).2 (.inl h1)
      · exact h1
theorem sw_closed {o : List Bool} (ho : o.length = n) (hc : ∀ j, j < n → o.getD j false = true → ∀ y ∈ S j, o.getD y false = true) : ∀ i, i ≤ n → ∀ z, (sw S o i).getD z false = true → o.getD z false = true := by
  intro i
  induction i with
  | zero => intro _ z h; exact h
  | succ i ih =>
    intro hi z hz; unfold sw at hz
    split at hz
    · rename_i hsi
      rcases (mk_at (n := n) _ _ (by rw [O7]; exact ho) (hS i (by omega)) z).1 hz with h1 | h1
      · exact ih (by omega) z h1
      · exact hc i (by omega) (ih (by omega) i hsi) z h1
    · exact ih (by omega) z hz
theorem Xf {r : Nat} (hr : r < n) (z : Nat) : (Vd S n ((List.replicate n false).set r true) n).getD z false = true ↔ Rch S r z := by
  let o0 := (List.replicate n false).set r true
  have ho0 : o0.length = n := by simp [o0]
  have hat0 : ∀ z, o0.getD z false = true ↔ z = r := fun z => by
    show ((List.replicate n false).set r true).getD z false = true ↔ z = r
    rw [List.getD_eq_getElem?_getD, List.getElem?_set]
    by_cases h : r = z
    · subst h; simp [hr]
    · rw [if_neg h, ← List.getD_eq_getElem?_getD, F5]; simp [Ne.symm h]
  have hlen : ∀ j, (Vd S n o0 j).length = n := fun j => by rw [rds_len, ho0]
  have hsound : ∀ j z, (Vd S n o0 j).getD z false = true → Rch S r z := by
    intro j
    induction j with
    | zero => intro z hz; rw [(hat0 z).1 hz]; exact .refl _
    | succ j ih => intro z hz; exact sw_sound hS (hlen j) ih n (Nat.le_refl _) z hz
  have hmono : ∀ j, ∀ z, o0.getD z false = true → (Vd S n o0 j).getD z false = true := by
    intro j
    induction j with
    | zero => intro z h; exact h
    | succ j ih => intro z h; exact Qi hS (hlen j) n (Nat.le_refl _) z (ih z h)
  let C : Nat → Prop := fun j => ∀ i, i < n → (Vd S n o0 j).getD i false = true → ∀ y ∈ S i, (Vd S n o0 j).getD y false = true
  have key : ∀ j, C j ∨ S9 n (fun z => (Vd S n o0 j).getD z false) + j + 1 ≤ n := by
    intro j
    induction j with
    | zero =>
      refine .inr ?_; have h1 := Ks (n := n) (s := fun _ => false) hr rfl
      have e : upd (fun _ => false) r = fun z => (Vd S n o0 0).getD z false := by
        funext z
        rw [Bool.eq_iff_iff, upd_true]
        show _ ↔ o0.getD z false = true
        rw [hat0]
        simp
      rw [e] at h1
      have hcl : S9 n (fun _ => false) = n := by
        unfold S9; rw [List.filter_eq_self.2 (by simp)]
        simp
      omega
    | succ j ih =>
      by_cases hc : C j
      · refine .inl fun i hi h y hy => ?_; have h1 := sw_closed hS (hlen j) hc n (Nat.le_refl _) i h; exact Qi hS (hlen j) n (Nat.le_refl _) y (hc i hi h1 y hy)
      · rcases ih with ih | ih
        · exact (hc ih).elim
        · refine .inr ?_
          have hex : ∃ i, i < n ∧ (Vd S n o0 j).getD i false = true ∧ ∃ y, y ∈ S i ∧ (Vd S n o0 j).getD y false = false := by
            simp only [C] at hc; simp only [Classical.not_forall] at hc; obtain ⟨i, hi, h1, y, hy, h2⟩ := hc; exact ⟨i, hi, h1, y, hy, by simpa using h2⟩
          obtain ⟨i, hi, h1, y, hy, h2⟩ := hex; have h3 := sw_step hS (hlen j) n (Nat.le_refl _) i hi h1 y hy; have hyn := hS i hi y hy; have h4 := Ks (n := n) (s := fun z => (Vd S n o0 j).getD z false) hyn h2
          have h5 : S9 n (fun z => (Vd S n o0 (j + 1)).getD z false) ≤ S9 n (upd (fun z => (Vd S n o0 j).getD z false) y) := Wa fun z hz => by
            rcases upd_true.1 hz with rfl | hz
            · exact h3
            · exact Qi hS (hlen j) n (Nat.le_refl _) z hz
          omega
  have hC : C n := by
    rcases key n with h | h
    · exact h
    · omega
  constructor
  · exact hsound n z
  · intro hrch
    have hlt : ∀ x z, Rch S x z → x < n → z < n ∧ ((Vd S n o0 n).getD x false = true → (Vd S n o0 n).getD z false = true) := by
      intro x z hxz
      induction hxz with
      | refl x => exact fun hx => ⟨hx, id⟩
      | @head x y z hy _ ih =>
        intro hx; have := ih (hS x hx y hy); exact ⟨this.1, fun h => this.2 (hC x hx h y hy)⟩
    exact (hlt r z hrch hr).2 (hmono n r ((hat0 r).2 rfl))
end
end
end Go.Proofs.Ytjpacggpipflcaa

namespace Go.Proofs.Ytjpacggpipflcaa
noncomputable section
open Go Go.RowKit
set_option linter.unusedVariables false
set_option linter.unusedSimpArgs false
def pos : List Nat → Nat → Nat
  | [], _ => 0
  | x :: l, z => if x = z then 0 else pos l z + 1
theorem S1 (x : Nat) (l : List Nat) (z : Nat) : pos (x :: l) z = if x = z then 0 else pos l z + 1 := rfl
theorem pos_app {A l : List Nat} {z : Nat} (h : z ∉ A) : pos (A ++ l) z = A.length + pos l z := by
  induction A with
  | nil => simp
  | cons x A ih =>
    have h1 : x ≠ z := fun e => h (by rw [e]; exact List.mem_cons_self ..); have h2 : z ∉ A := fun e => h (List.mem_cons_of_mem _ e); rw [List.cons_append, S1, if_neg h1, ih h2, List.length_cons]; omega
theorem Ja {P : List Nat} (hd : P.Nodup) {i : Nat} (hi : i < P.length) : P[i] ∉ P.take i ∧ pos P P[i] = i := by
  have e : P = P.take i ++ P[i] :: P.drop (i + 1) := by rw [← List.drop_eq_getElem_cons hi, List.take_append_drop]
  have hn : P[i] ∉ P.take i := by
    rw [e] at hd; have := (List.nodup_append.1 hd).2.2; exact fun hm => this _ hm _ (List.mem_cons_self ..) rfl
  refine ⟨hn, ?_⟩
  have h2 : pos (P.take i ++ P[i] :: P.drop (i + 1)) P[i] = i := by
    rw [pos_app hn]
    have : pos (P[i] :: P.drop (i + 1)) P[i] = 0 := by rw [S1, if_pos rfl]
    rw [this, List.length_take]; omega
  rw [← e] at h2; exact h2
end
end Go.Proofs.Ytjpacggpipflcaa

namespace Go.Proofs.Ytjpacggpipflcaa
noncomputable section
open Go Go.RowKit
set_option linter.unusedVariables false
set_option linter.unusedSimpArgs false
inductive Rc (S : Nat → List Nat) (r : Nat) : Nat → Prop
  | root : Rc S r r
  | step {x y : Nat} (h : Rc S r x) (hy : y ∈ S x) : Rc S r y
inductive Av (S : Nat → List Nat) (r z : Nat) : Nat → Prop
  | root (h : r ≠ z) : Av S r z r
  | step {x y : Nat} (h : Av S r z x) (hy : y ∈ S x) (hz : y ≠ z) : Av S r z y
inductive AvN (S : Nat → List Nat) (r z : Nat) : Nat → Nat → Prop
  | root (h : r ≠ z) (k : Nat) : AvN S r z k r
  | step {k x y : Nat} (h : AvN S r z k x) (hy : y ∈ S x) (hz : y ≠ z) : AvN S r z (k + 1) y
section
variable {S : Nat → List Nat} {r : Nat}
theorem rc_iff {x : Nat} : Rc S r x ↔ Rch S r x := by
  constructor
  · intro h
    induction h with
    | root => exact .refl _
    | step _ hy ih => exact ih.tail hy
  · intro h
    have key : ∀ a b, Rch S a b → Rc S r a → Rc S r b := by
      intro a b hab
      induction hab with
      | refl x => exact id
      | head hy _ ih => exact fun ha => ih (.step ha hy)
    exact key _ _ h .root
def wo (S : Nat → List Nat) (z : Nat) : Nat → List Nat := fun x => (S x).filter fun y => decide (y ≠ z)
theorem av_iff {z x : Nat} : Av S r z x ↔ r ≠ z ∧ Rch (wo S z) r x := by
  constructor
  · intro h
    induction h with
    | root h => exact ⟨h, .refl _⟩
    | step _ hy hz ih => exact ⟨ih.1, ih.2.tail (List.mem_filter.2 ⟨hy, by simpa using hz⟩)⟩
  · rintro ⟨hr, h⟩
    have key : ∀ a b, Rch (wo S z) a b → Av S r z a → Av S r z b := by
      intro a b hab
      induction hab with
      | refl x => exact id
      | head hy _ ih =>
        obtain ⟨h1, h2⟩ := List.mem_filter.1 hy; exact fun ha => ih (.step ha h1 (by simpa using h2))
    exact key _ _ h (.root hr)
theorem Av.rc {z x : Nat} (h : Av S r z x) : Rc S r x := by
  induction h with
  | root _ => exact .root
  | step _ hy _ ih => exact .step ih hy
theorem Av.ne {z x : Nat} (h : Av S r z x) : x ≠ z := by
  cases h with
  | root h => exact h
  | step _ _ hz => exact hz
theorem AvN.av {z k x : Nat} (h : AvN S r z k x) : Av S r z x := by
  induction h with
  | root h => exact .root h
  | step _ hy hz ih => exact .step ih hy hz
theorem AvN.up {z k x : Nat} (h : AvN S r z k x) : AvN S r z (k + 1) x := by
  induction h with
  | root h k => exact .root h _
  | step _ hy hz ih => exact .step ih hy hz
theorem AvN.mono {z k m x : Nat} (h : AvN S r z k x) (hm : k ≤ m) : AvN S r z m x := by
  obtain ⟨d, rfl⟩ := Nat.exists_eq_add_of_le hm; clear hm
  induction d with
  | zero => exact h
  | succ d ih => exact ih.up
theorem Av.avn {z x : Nat} (h : Av S r z x) : ∃ k, AvN S r z k x := by
  induction h with
  | root h => exact ⟨0, .root h 0⟩
  | step _ hy hz ih => obtain ⟨k, hk⟩ := ih; exact ⟨k + 1, .step hk hy hz⟩
theorem AvN.via {z k x : Nat} (h : AvN S r z k x) (y : Nat) : AvN S r y k x ∨ AvN S r z k y := by
  induction h with
  | root h k => by_cases hy : r = y
                · subst hy; exact .inr (.root h _)
                · exact .inl (.root hy _)
  | @step k x w h hy hz ih =>
    rcases ih with h1 | h1
    · by_cases hw : w = y
      · subst hw; exact .inr (.step h hy hz)
      · exact .inl (.step h1 hy hw)
    · exact .inr h1.up
theorem avn_bound (n : Nat) : ∃ K, ∀ z, z < n → ∀ x, x < n → Av S r z x → AvN S r z K x := by
  have one : ∀ z m, ∃ K, ∀ x, x < m → Av S r z x → AvN S r z K x := by
    intro z m
    induction m with
    | zero => exact ⟨0, fun x hx => absurd hx (Nat.not_lt_zero x)⟩
    | succ m ih =>
      obtain ⟨K, hK⟩ := ih
      by_cases h : Av S r z m
      · obtain ⟨k, hk⟩ := h.avn; refine ⟨max K k, fun x hx ha => ?_⟩; rcases Nat.lt_succ_iff_lt_or_eq.1 hx with h1 | rfl
        · exact (hK x h1 ha).mono (Nat.le_max_left ..)
        · exact hk.mono (Nat.le_max_right ..)
      · refine ⟨K, fun x hx ha => ?_⟩; rcases Nat.lt_succ_iff_lt_or_eq.1 hx with h1 | rfl
        · exact hK x h1 ha
        · exact absurd ha h
  have two : ∀ m, ∃ K, ∀ z, z < m → ∀ x, x < n → Av S r z x → AvN S r z K x := by
    intro m
    induction m with
    | zero => exact ⟨0, fun x hx => absurd hx (Nat.not_lt_zero x)⟩
    | succ m ih =>
      obtain ⟨K, hK⟩ := ih; obtain ⟨k, hk⟩ := one m n; refine ⟨max K k, fun z hz x hx ha => ?_⟩; rcases Nat.lt_succ_iff_lt_or_eq.1 hz with h1 | rfl
      · exact (hK z h1 x hx ha).mono (Nat.le_max_left ..)
      · exact (hk x hx ha).mono (Nat.le_max_right ..)
  exact two n
end
inductive UpTo (par : Nat → Int) : Nat → Nat → Prop
  | refl (x : Nat) : UpTo par x x
  | up {x y z : Nat} (h : par x = (y : Int)) (t : UpTo par y z) : UpTo par x z
inductive Fw (S : Nat → List Nat) (at_ : Nat → Nat) (u : Nat) : Nat → Prop
  | refl : Fw S at_ u u
  | step {v w : Nat} (h : Fw S at_ u v) (hw : w ∈ S v) (hl : at_ v < at_ w) : Fw S at_ u w
section
variable {S : Nat → List Nat} {at_ : Nat → Nat} {par : Nat → Int}
theorem Fw.le {u w : Nat} (h : Fw S at_ u w) : at_ u ≤ at_ w := by
  induction h with
  | refl => exact Nat.le_refl _
  | step _ _ hl ih => omega
theorem Fw.trans {u v w : Nat} (h : Fw S at_ u v) (k : Fw S at_ v w) : Fw S at_ u w := by
  induction k with
  | refl => exact h
  | step _ hw hl ih => exact .step ih hw hl
theorem Fw.av {r d u w : Nat} (h : Fw S at_ u w) (ha : Av S r d u) (hd : at_ d < at_ u) : Av S r d w := by
  induction h with
  | refl => exact ha
  | @step v w h hw hl ih => exact .step ih hw (by rintro rfl; have := h.le; omega)
theorem UpTo.trans {x y z : Nat} (h : UpTo par x y) (k : UpTo par y z) : UpTo par x z := by
  induction h with
  | refl x => exact k
  | up h _ ih => exact .up h (ih k)
theorem anc_up {x p z : Nat} (h : par x = (p : Int)) : UpTo par x z ↔ z = x ∨ UpTo par p z := by
  constructor
  · intro k
    cases k with
    | refl => exact .inl rfl
    | up h' t => rw [h] at h'; cases Int.ofNat.inj h'; exact .inr t
  · rintro (rfl | k)
    · exact .refl _
    · exact .up h k
theorem Qo {x z : Nat} (h : ∀ p : Nat, par x ≠ (p : Int)) : UpTo par x z ↔ z = x := by
  constructor
  · intro k
    cases k with
    | refl => rfl
    | up h' t => exact absurd h' (h _)
  · rintro rfl; exact .refl _
structure Inv (S : Nat → List Nat) (r n : Nat) (at_ : Nat → Nat) (par : Nat → Int) : Prop where
  top : par r = -1
  kind : ∀ x, x < n → par x = -2 ∨ x = r ∨ ∃ z : Nat, par x = (z : Int)
  up : ∀ x, x < n → ∀ z : Nat, par x = (z : Int) → z < n ∧ par z ≠ -2 ∧ at_ z < at_ x ∧ Fw S at_ z x
  rc : ∀ x, x < n → par x ≠ -2 → Rc S r x
  all : ∀ x, x < n → par x ≠ -2 → ∀ d, ¬ UpTo par x d → Av S r d x
end
section
variable {S : Nat → List Nat} {at_ : Nat → Nat} {par : Nat → Int} {r n : Nat}
theorem Inv.anc (h : Inv S r n at_ par) {x z : Nat} (k : UpTo par x z) (hx : x < n) (hp : par x ≠ -2) : z < n ∧ par z ≠ -2 ∧ at_ z ≤ at_ x ∧ Fw S at_ z x := by
  induction k with
  | refl x => exact ⟨hx, hp, Nat.le_refl _, .refl⟩
  | @up x y z hxy t ih =>
    obtain ⟨h1, h2, h3, h4⟩ := h.up x hx y hxy; obtain ⟨i1, i2, i3, i4⟩ := ih h1 h2; exact ⟨i1, i2, by omega, i4.trans h4⟩
theorem Inv.root_anc (h : Inv S r n at_ par) {z : Nat} : UpTo par r z ↔ z = r := Qo fun p hp => by rw [h.top] at hp; omega
theorem Inv.strict (h : Inv S r n at_ par) {x z : Nat} (k : UpTo par x z) (hx : x < n) (hp : par x ≠ -2) : z = x ∨ at_ z < at_ x := by
  cases k with
  | refl => exact .inl rfl
  | up hxy t =>
    obtain ⟨h1, h2, h3, h4⟩ := h.up x hx _ hxy; obtain ⟨i1, i2, i3, i4⟩ := h.anc t h1 h2; exact .inr (by omega)
theorem Inv.antisymm (h : Inv S r n at_ par) {x z : Nat} (k : UpTo par x z) (m : UpTo par z x) (hx : x < n) (hp : par x ≠ -2) : z = x := by
  rcases h.strict k hx hp with rfl | h1
  · rfl
  · obtain ⟨i1, i2, i3, i4⟩ := h.anc k hx hp; have := (h.anc m i1 i2).2.2.1; omega
def MeetAt (par : Nat → Int) (a b m : Nat) : Prop := ∀ w, UpTo par m w ↔ UpTo par a w ∧ UpTo par b w
theorem Ul {a : Nat} : MeetAt par a a a := fun w => by simp
theorem meet_swap {a b m : Nat} (h : MeetAt par a b m) : MeetAt par b a m := fun w => by rw [h w]; exact And.comm
theorem Inv.meet_left (h : Inv S r n at_ par) (hinj : ∀ x y, x < n → y < n → par x ≠ -2 → par y ≠ -2 → at_ x = at_ y → x = y) {a b p m : Nat} (ha : a < n) (hpa : par a ≠ -2) (hb : b < n) (hpb : par b ≠ -2) (hab : a ≠ b) (hl : at_ b ≤ at_ a) (hp : par a = (p : Int)) (k : MeetAt par p b m) : MeetAt par a b m := fun w => by
  rw [k w]
  constructor
  · rintro ⟨h1, h2⟩; exact ⟨.up hp h1, h2⟩
  · rintro ⟨h1, h2⟩; rcases (anc_up hp).1 h1 with rfl | h1
    · exfalso
      rcases h.strict h2 hb hpb with h3 | h3
      · exact hab h3
      · omega
    · exact ⟨h1, h2⟩
end
section
variable {S : Nat → List Nat} {at_ : Nat → Nat} {par : Nat → Int} {r n : Nat}
def Gy (par : Nat → Int) (y : Nat) (v : Int) : Nat → Int := fun x => if x = y then v else par x
def Yp (S : Nat → List Nat) (n : Nat) (par : Nat → Int) (y z : Nat) : Prop := ∀ w, UpTo par z w ↔ ∀ p, p < n → y ∈ S p → par p ≠ -2 → UpTo par p w
theorem Pn {y : Nat} {v : Int} {x z : Nat} (k : UpTo par x z) (hy : ¬ UpTo par x y) : UpTo (Gy par y v) x z := by
  induction k with
  | refl x => exact .refl _
  | @up x q z h t ih =>
    have hxy : x ≠ y := by rintro rfl; exact hy (.refl _)
    refine .up (y := q) ?_ (ih fun k => hy (.up h k)); unfold Gy; rw [if_neg hxy]; exact h
theorem Xz {y : Nat} {v : Int} {x : Nat} (k : UpTo par x y) : UpTo (Gy par y v) x y := by
  induction k with
  | refl x => exact .refl _
  | @up x q z h t ih =>
    by_cases hxy : x = z
    · subst hxy; exact .refl _
    · refine .up (y := q) ?_ ih; unfold Gy; rw [if_neg hxy]; exact h
theorem anc_upd_inv {y : Nat} {v : Int} {x w : Nat} (k : UpTo (Gy par y v) x w) : UpTo par x w ∨ (UpTo par x y ∧ UpTo (Gy par y v) y w) := by
  induction k with
  | refl x => exact .inl (.refl _)
  | @up x q w h t ih =>
    by_cases hxy : x = y
    · subst hxy; exact .inr ⟨.refl _, .up h t⟩
    · unfold Gy at h; rw [if_neg hxy] at h; rcases ih with h1 | ⟨h1, h2⟩
      · exact .inl (.up h h1)
      · exact .inr ⟨.up h h1, h2⟩
theorem low_or {y : Nat} {v : Int} {x d : Nat} (k : UpTo par x y) (hd : UpTo par x d) : UpTo par y d ∨ UpTo (Gy par y v) x d := by
  induction k with
  | refl x => exact .inl hd
  | @up x q y hq t ih =>
    by_cases e : x = y
    · subst e; exact .inl hd
    · rcases (anc_up hq).1 hd with rfl | k
      · exact .inr (.refl _)
      · rcases ih k with h1 | h1
        · exact .inl h1
        · exact .inr (.up (y := q) (by unfold Gy; rw [if_neg e]; exact hq) h1)
structure Better (S : Nat → List Nat) (r n : Nat) (at_ : Nat → Nat) (par : Nat → Int) (y z : Nat) : Prop where
  inv : Inv S r n at_ par
  hy : y < n
  hr : y ≠ r
  hz : z < n
  best : Yp S n par y z
  fwd : ∃ p, p < n ∧ y ∈ S p ∧ par p ≠ -2 ∧ at_ p < at_ y
variable {y z : Nat}
theorem Better.zlt (h : Better S r n at_ par y z) : UpTo par z z ∧ par z ≠ -2 ∧ at_ z < at_ y ∧ Fw S at_ z y := by
  obtain ⟨p, hp, hyp, hpp, hl⟩ := h.fwd; obtain ⟨h1, h2, h3, h4⟩ := h.inv.anc ((h.best z).1 (.refl _) p hp hyp hpp) hp hpp; exact ⟨.refl _, h2, by omega, .step h4 hyp hl⟩
theorem Better.above (h : Better S r n at_ par y z) {w : Nat} : UpTo (Gy par y z) z w ↔ UpTo par z w := by
  obtain ⟨_, h2, h3, _⟩ := h.zlt
  have hn : ¬ UpTo par z y := fun k => by have := (h.inv.anc k h.hz h2).2.2.1; omega
  constructor
  · intro k; rcases anc_upd_inv k with h1 | ⟨h1, _⟩
    · exact h1
    · exact absurd h1 hn
  · intro k; exact Pn k hn
theorem Better.here (h : Better S r n at_ par y z) {w : Nat} : UpTo (Gy par y z) y w ↔ w = y ∨ UpTo par z w := by
  rw [anc_up (p := z) (by simp [Gy]), h.above]
theorem Better.av_here (h : Better S r n at_ par y z) {d : Nat} (hd : ¬ UpTo (Gy par y z) y d) : Av S r d y := by
  rw [h.here] at hd; have h1 : ¬ ∀ p, p < n → y ∈ S p → par p ≠ -2 → UpTo par p d := fun hh => hd (.inr ((h.best d).2 hh)); simp only [Classical.not_forall] at h1; obtain ⟨p, hp, hyp, hpp, hnp⟩ := h1; exact .step (h.inv.all p hp hpp d hnp) hyp fun e => hd (.inl e.symm)
theorem Better.inv' (h : Better S r n at_ par y z) : Inv S r n at_ (Gy par y z) := by
  obtain ⟨hzz, hz2, hzl, hzf⟩ := h.zlt; obtain ⟨p, hp, hyp, hpp, hl⟩ := h.fwd
  have hne : ∀ x, Gy par y z x ≠ -2 → x = y ∨ par x ≠ -2 := fun x hx => by
    by_cases e : x = y
    · exact .inl e
    · unfold Gy at hx; rw [if_neg e] at hx; exact .inr hx
  have hyv : Gy par y z y = (z : Int) := by simp [Gy]
  have hyo : ∀ x, x ≠ y → Gy par y z x = par x := fun x e => by unfold Gy; rw [if_neg e]
  refine ⟨by rw [hyo _ (Ne.symm h.hr)]; exact h.inv.top, fun x hx => ?_, fun x hx w hw => ?_, fun x hx hxp => ?_, fun x hx hxp d hd => ?_⟩
  · by_cases e : x = y
    · subst e; exact .inr (.inr ⟨z, hyv⟩)
    · rw [hyo x e]; exact h.inv.kind x hx
  · have hzn : ∀ w, par w ≠ -2 → Gy par y z w ≠ -2 := fun w hw => by
      by_cases e : w = y
      · subst e; rw [hyv]; omega
      · rw [hyo w e]; exact hw
    by_cases e : x = y
    · subst e; rw [hyv] at hw
      cases Int.ofNat.inj hw
      exact ⟨h.hz, hzn _ hz2, hzl, hzf⟩
    · rw [hyo x e] at hw; obtain ⟨h1, h2, h3, h4⟩ := h.inv.up x hx w hw; exact ⟨h1, hzn _ h2, h3, h4⟩
  · rcases hne x hxp with rfl | h1
    · exact .step (h.inv.rc p hp hpp) hyp
    · exact h.inv.rc x hx h1
  · by_cases e : x = y
    · subst e; exact h.av_here hd
    · rw [hyo x e] at hxp
      by_cases hxd : UpTo par x d
      ·
        by_cases hxy : UpTo par x y
        · have hyd : ¬ UpTo (Gy par y z) y d := fun k => hd ((Xz hxy).trans k); have hav := h.av_here hyd; have hf := (h.inv.anc hxy hx hxp).2.2.2
          have hdy : UpTo par y d := by
            rcases low_or (v := (z : Int)) hxy hxd with h1 | h1
            · exact h1
            · exact absurd h1 hd
          by_cases hpy : par y = -2
          ·
            have : d = y := by
              refine (Qo (par := par) fun p hp => ?_).1 hdy; rw [hpy] at hp; omega
            subst this; exact absurd (.refl _) hyd
          · rcases h.inv.strict hdy h.hy hpy with rfl | hlt
            · exact absurd (.refl _) hyd
            · exact hf.av hav hlt
        · exact absurd (Pn hxd hxy) hd
      · exact h.inv.all x hx hxp d hxd
end
end
end Go.Proofs.Ytjpacggpipflcaa

namespace Go.Proofs.Ytjpacggpipflcaa
noncomputable section
open Go Go.RowKit
set_option linter.unusedVariables false
set_option linter.unusedSimpArgs false
section
variable {S : Nat → List Nat} {at_ : Nat → Nat} {par : Nat → Int} {r n : Nat}
def QB (S : Nat → List Nat) (r n : Nat) (par : Nat → Int) (b : Nat → Nat) : Prop := ∀ x, x < n → par x ≠ -2 → ∀ z, AvN S r z (b x) x → ¬ UpTo par x z
def Yr (S : Nat → List Nat) (r n : Nat) (par : Nat → Int) : Prop := ∀ x, x < n → Rc S r x → par x ≠ -2
def Exact (S : Nat → List Nat) (r n : Nat) (par : Nat → Int) : Prop := ∀ x, x < n → par x ≠ -2 → ∀ d, UpTo par x d ↔ ¬ Av S r d x
theorem qb_zero (h : Inv S r n at_ par) : QB S r n par fun _ => 0 := fun x hx hp z hz k => by
  cases hz with
  | root hr _ => exact hr (h.root_anc.1 k).symm
theorem Ya (hS : ∀ x, x < n → ∀ w ∈ S x, w < n) (hr : r < n) {x : Nat} (h : Rc S r x) : x < n := by
  induction h with
  | root => exact hr
  | step _ hy ih => exact hS _ ih _ hy
theorem Better.qb {y z k : Nat} {b : Nat → Nat} (h : Better S r n at_ par y z) (hS : ∀ x, x < n → ∀ w ∈ S x, w < n) (hrn : r < n) (full : Yr S r n par) (hb : ∀ x, x < n → k ≤ b x ∧ b x ≤ k + 1) (q : QB S r n par b) :
    QB S r n (Gy par y z) fun x => if x = y then k + 1 else b x := by
  have here : ∀ w, AvN S r w (k + 1) y → ¬ UpTo (Gy par y z) y w := fun w hw hu => by
    rcases h.here.1 hu with rfl | hu
    · exact hw.av.ne rfl
    · cases hw with
      | root hr _ => exact h.hr rfl
      | @step _ p _ hp hyp hne =>
        have hpn := Ya hS hrn hp.av.rc; have hpp := full p hpn hp.av.rc; exact q p hpn hpp w (hp.mono (hb p hpn).1) ((h.best w).1 hu p hpn hyp hpp)
  intro x hx hxp w hw hu
  dsimp only at hw
  by_cases e : x = y
  · subst e; rw [if_pos rfl] at hw; exact here w hw hu
  · rw [if_neg e] at hw; unfold Gy at hxp; rw [if_neg e] at hxp; rcases anc_upd_inv hu with h1 | ⟨h1, h2⟩
    · exact q x hx hxp w hw h1
    · rcases hw.via y with h3 | h3
      · exact q x hx hxp y h3 h1
      · exact here w (h3.mono (hb x hx).2) h2
theorem exact_of (h : Inv S r n at_ par) {K : Nat} (hK : ∀ z, z < n → ∀ x, x < n → Av S r z x → AvN S r z K x) (q : QB S r n par fun _ => K) : Exact S r n par := fun x hx hp d => by
  constructor
  · intro hu ha; exact q x hx hp d (hK d (h.anc hu hx hp).1 x hx ha) hu
  · intro ha; exact Classical.byContradiction fun hn => ha (h.all x hx hp d hn)
theorem Better.same {y z : Nat} (h : Better S r n at_ par y z) (hS : ∀ x, x < n → ∀ w ∈ S x, w < n) (hrn : r < n) (full : Yr S r n par) (hy2 : par y ≠ -2) (ex : Exact S r n par) : par y = (z : Int) := by
  obtain ⟨hzz, hz2, hzl, hzf⟩ := h.zlt; rcases h.inv.kind y h.hy with h1 | h1 | ⟨q, hq⟩
  · exact absurd h1 hy2
  · exact absurd h1 h.hr
  · obtain ⟨q1, q2, q3, q4⟩ := h.inv.up y h.hy q hq
    have key : ∀ w, UpTo par z w ↔ UpTo par q w := fun w => by
      rw [h.best w]
      constructor
      · intro hall
        have hwy : ¬ Av S r w y := fun ha => by
          cases ha with
          | root _ => exact h.hr rfl
          | @step p _ hp hyp hne =>
            have hpn := Ya hS hrn hp.rc; have hpp := full p hpn hp.rc; exact (ex p hpn hpp w).1 (hall p hpn hyp hpp) hp
        rcases (anc_up hq).1 ((ex y h.hy hy2 w).2 hwy) with rfl | hu
        · have := (h.inv.anc ((h.best _).2 hall) h.hz hz2).2.2.1; omega
        · exact hu
      · intro hu p hp hyp hpp; have hwy : UpTo par y w := .up hq hu; refine (ex p hp hpp w).2 fun ha => ?_
        have hne : y ≠ w := by rintro rfl; have := (h.inv.anc hu q1 q2).2.2.1; omega
        exact (ex y h.hy hy2 w).1 hwy (.step ha hyp hne)
    have := h.inv.antisymm ((key q).2 (.refl _)) ((key z).1 (.refl _)) h.hz hz2; rw [hq, this]
theorem exact_fix (h : Inv S r n at_ par) (hS : ∀ x, x < n → ∀ w ∈ S x, w < n) (hrn : r < n) (full : Yr S r n par) (fix : ∀ y, y < n → y ≠ r → Rc S r y → ∃ z : Nat, par y = (z : Int) ∧ Yp S n par y z) : Exact S r n par := fun x hx hp d => by
  constructor
  · intro hu ha
    induction ha with
    | root hne => exact hne (h.root_anc.1 hu).symm
    | @step p y hp' hyp hne ih =>
      have hpn := Ya hS hrn hp'.rc; have hpp := full p hpn hp'.rc
      by_cases e : y = r
      · subst e; exact hne (h.root_anc.1 hu).symm
      · obtain ⟨z, hz, hb⟩ := fix y hx e (.step hp'.rc hyp); rcases (anc_up hz).1 hu with rfl | hu
        · exact hne rfl
        · exact ih hpn hpp ((hb d).1 hu p hpn hyp hpp)
  · intro ha; exact Classical.byContradiction fun hn => ha (h.all x hx hp d hn)
end
def Bg (t : List Int) : Nat → Int := fun x => t.getD x 0
theorem We {t : List Int} {y : Nat} {v : Int} (hy : y < t.length) : Bg (t.set y v) = Gy (Bg t) y v := by
  funext x
  unfold Bg Gy
  by_cases e : x = y
  · subst e; simp [List.getD, hy]
  · simp [List.getD, e, Ne.symm e]
open Classical in
def Ge (S : Nat → List Nat) (n : Nat) (t : List Int) (y : Nat) : Nat := if h : ∃ z, z < n ∧ Yp S n (Bg t) y z then Classical.choose h else 0
def K1 (S : Nat → List Nat) (n : Nat) (P : List Nat) (t : List Int) : Nat → List Int
  | 0 => t
  | i + 1 => (K1 S n P t i).set (P.getD i 0) (Ge S n (K1 S n P t i) (P.getD i 0) : Int)
def Qk (S : Nat → List Nat) (n : Nat) (P : List Nat) (t : List Int) : Nat → List Int
  | 0 => t
  | j + 1 => K1 S n P (Qk S n P t j) P.length
def Dx (n r : Nat) : List Int := (List.replicate n (-2 : Int)).set r (-1)
structure Ordered (S : Nat → List Nat) (r n : Nat) (P : List Nat) : Prop where
  hr : r < n
  hS : ∀ x, x < n → ∀ w ∈ S x, w < n
  nodup : (r :: P).Nodup
  mem : ∀ x, x ∈ r :: P ↔ Rc S r x
  fwd : ∀ i, i < P.length → ∃ p, p ∈ r :: P.take i ∧ P.getD i 0 ∈ S p
section
variable {S : Nat → List Nat} {r n : Nat} {P : List Nat}
theorem Ordered.lt (o : Ordered S r n P) {x : Nat} (h : x ∈ r :: P) : x < n := Ya o.hS o.hr ((o.mem x).1 h)
theorem H6 {i : Nat} (hi : i < P.length) : P.getD i 0 ∈ P := by rw [Ag _ _ _ hi]; exact List.getElem_mem hi
theorem Ordered.at_lt (o : Ordered S r n P) {i : Nat} (hi : i < P.length) {p : Nat} (hp : p ∈ r :: P.take i) : pos (r :: P) p < pos (r :: P) (P.getD i 0) := by
  have hd := o.nodup
  have h1 : pos (r :: P) (P.getD i 0) = i + 1 := by
    have := (Ja hd (i := i + 1) (by simpa using hi)).2; rw [Ag _ _ _ hi]
    simpa using this
  rw [h1]; obtain ⟨j, hj, rfl⟩ := List.getElem_of_mem hp
  have hj' : j < i + 1 := by simp at hj; omega
  have hjl : j < (r :: P).length := by simp; omega
  have e : (r :: P.take i)[j] = (r :: P)[j] := by
    cases j with
    | zero => rfl
    | succ j => simp
  rw [e, (Ja hd hjl).2]; exact hj'
theorem inv0 (o : Ordered S r n P) : Inv S r n (pos (r :: P)) (Bg (Dx n r)) ∧ (Dx n r).length = n ∧ Bg (Dx n r) r ≠ -2 := by
  have hlen : (Dx n r).length = n := by simp [Dx]
  have hr := o.hr
  have at_ : ∀ x, x < n → Bg (Dx n r) x = if x = r then -1 else -2 := fun x hx => by
    unfold Bg Dx
    by_cases e : x = r
    · subst e; simp [List.getD, hx]
    · simp [List.getD, hx, e, Ne.symm e]
  have hno : ∀ x, x < n → ∀ p : Nat, Bg (Dx n r) x ≠ (p : Int) := fun x hx p hp => by rw [at_ x hx] at hp; split at hp <;> omega
  refine ⟨⟨by rw [at_ r hr, if_pos rfl], fun x hx => ?_, fun x hx z hz => absurd hz (hno x hx z), fun x hx hp => ?_, fun x hx hp d hd => ?_⟩, hlen, by rw [at_ r hr, if_pos rfl]; omega⟩
  · by_cases e : x = r
    · exact .inr (.inl e)
    · exact .inl (by rw [at_ x hx, if_neg e])
  · by_cases e : x = r
    · subst e; exact .root
    · exact absurd (by rw [at_ x hx, if_neg e]) hp
  · by_cases e : x = r
    · subst e; exact .root (fun e => hd (by rw [e]; exact .refl _))
    · exact absurd (by rw [at_ x hx, if_neg e]) hp
structure Ready (S : Nat → List Nat) (r n : Nat) (P : List Nat) (t : List Int) (i : Nat) : Prop where
  inv : Inv S r n (pos (r :: P)) (Bg t)
  len : t.length = n
  done : ∀ x ∈ r :: P.take i, Bg t x ≠ -2
theorem Inv.meets {at_ : Nat → Nat} {par : Nat → Int} (h : Inv S r n at_ par) (hinj : ∀ x y, x < n → y < n → par x ≠ -2 → par y ≠ -2 → at_ x = at_ y → x = y) (hr : at_ r = 0) : ∀ m a b, at_ a + at_ b ≤ m → a < n → b < n → par a ≠ -2 → par b ≠ -2 → ∃ c, MeetAt par a b c ∧ c < n ∧ par c ≠ -2 := by
  intro m
  induction m with
  | zero =>
    intro a b hm ha hb hpa hpb; have : a = b := hinj a b ha hb hpa hpb (by omega); subst this; exact ⟨a, Ul, ha, hpa⟩
  | succ m ih =>
    have go : ∀ a b, at_ a + at_ b ≤ m + 1 → a < n → b < n → par a ≠ -2 → par b ≠ -2 → at_ b ≤ at_ a → ∃ c, MeetAt par a b c ∧ c < n ∧ par c ≠ -2 := fun a b hm ha hb hpa hpb hl => by
      by_cases e : a = b
      · subst e; exact ⟨a, Ul, ha, hpa⟩
      · rcases h.kind a ha with h1 | h1 | ⟨p, hp⟩
        · exact absurd h1 hpa
        · subst h1; exact absurd (hinj a b ha hb hpa hpb (by omega)) e
        · obtain ⟨p1, p2, p3, p4⟩ := h.up a ha p hp; obtain ⟨c, hc, hc2⟩ := ih p b (by omega) p1 hb p2 hpb; exact ⟨c, h.meet_left hinj ha hpa hb hpb e hl hp hc, hc2⟩
    intro a b hm ha hb hpa hpb; rcases Nat.le_total (at_ b) (at_ a) with hl | hl
    · exact go a b hm ha hb hpa hpb hl
    · obtain ⟨c, hc, hc2⟩ := go b a (by omega) hb ha hpb hpa hl; exact ⟨c, meet_swap hc, hc2⟩
theorem Ready.inj (o : Ordered S r n P) {t : List Int} {i : Nat} (h : Ready S r n P t i) : ∀ x y, x < n → y < n → Bg t x ≠ -2 → Bg t y ≠ -2 → pos (r :: P) x = pos (r :: P) y → x = y := fun x y hx hy hpx hpy he => by
  have hm : ∀ x, x < n → Bg t x ≠ -2 → x ∈ r :: P := fun x hx hp => (o.mem x).2 (h.inv.rc x hx hp)
  have back : ∀ x ∈ r :: P, (r :: P).getD (pos (r :: P) x) 0 = x := fun x hx => by
    obtain ⟨j, hj, rfl⟩ := List.getElem_of_mem hx; rw [(Ja o.nodup hj).2, Ag _ _ _ hj]
  rw [← back x (hm x hx hpx), ← back y (hm y hy hpy), he]
theorem Xe : pos (r :: P) r = 0 := by rw [S1, if_pos rfl]
theorem Ready.meetAll (o : Ordered S r n P) {t : List Int} {i : Nat} (h : Ready S r n P t i) : ∀ l : List Nat, (∀ p ∈ l, p < n ∧ Bg t p ≠ -2) → l ≠ [] → ∃ z, z < n ∧ Bg t z ≠ -2 ∧ ∀ w, UpTo (Bg t) z w ↔ ∀ p ∈ l, UpTo (Bg t) p w := by
  intro l
  induction l with
  | nil => intro _ hn; exact absurd rfl hn
  | cons p l ih =>
    intro hl _; obtain ⟨hp1, hp2⟩ := hl p (List.mem_cons_self ..)
    by_cases hl0 : l = []
    · subst hl0; exact ⟨p, hp1, hp2, fun w => by simp⟩
    · obtain ⟨z, hz1, hz2, hz3⟩ := ih (fun q hq => hl q (List.mem_cons_of_mem _ hq)) hl0; obtain ⟨c, hc1, hc2, hc3⟩ := h.inv.meets (h.inj o) Xe _ p z (Nat.le_refl _) hp1 hz1 hp2 hz2; exact ⟨c, hc2, hc3, fun w => by rw [hc1 w, hz3 w]; simp⟩
theorem Ready.best (o : Ordered S r n P) {t : List Int} {i : Nat} (h : Ready S r n P t i) (hi : i < P.length) : Better S r n (pos (r :: P)) (Bg t) (P.getD i 0) (Ge S n t (P.getD i 0)) := by
  have hy := H6 hi; have hyr : P.getD i 0 ≠ r := fun e => (List.nodup_cons.1 o.nodup).1 (e ▸ hy); have hyn := o.lt (List.mem_cons_of_mem _ hy); obtain ⟨p, hp, hyp⟩ := o.fwd i hi; have hp2 := h.done p hp
  have hpP : p ∈ r :: P := by
    rcases List.mem_cons.1 hp with rfl | hp
    · exact List.mem_cons_self ..
    · exact List.mem_cons_of_mem _ (List.mem_of_mem_take hp)
  have hpn := o.lt hpP
  have hex : ∃ z, z < n ∧ Yp S n (Bg t) (P.getD i 0) z := by
    classical
    obtain ⟨z, hz1, hz2, hz3⟩ := h.meetAll o ((List.range n).filter fun p => decide (P.getD i 0 ∈ S p ∧ Bg t p ≠ -2)) (fun p hp => by
      obtain ⟨h1, h2⟩ := List.mem_filter.1 hp
      exact ⟨List.mem_range.1 h1, (of_decide_eq_true h2).2⟩) (fun e => by
      have : p ∈ (List.range n).filter fun p => decide (P.getD i 0 ∈ S p ∧ Bg t p ≠ -2) := List.mem_filter.2 ⟨List.mem_range.2 hpn, decide_eq_true ⟨hyp, hp2⟩⟩
      rw [e] at this; cases this)
    refine ⟨z, hz1, fun w => ?_⟩; rw [hz3 w]
    constructor
    · intro k p hp hyp hpp; exact k p (List.mem_filter.2 ⟨List.mem_range.2 hp, decide_eq_true ⟨hyp, hpp⟩⟩)
    · intro k p hp; obtain ⟨h1, h2⟩ := List.mem_filter.1 hp; exact k p (List.mem_range.1 h1) (of_decide_eq_true h2).1 (of_decide_eq_true h2).2
  have hb : Ge S n t (P.getD i 0) < n ∧ Yp S n (Bg t) (P.getD i 0) (Ge S n t (P.getD i 0)) := by
    unfold Ge; rw [dif_pos hex]; exact Classical.choose_spec hex
  exact ⟨h.inv, hyn, hyr, hb.1, hb.2, p, hpn, hyp, hp2, o.at_lt hi hp⟩
theorem Ready.best_eq (o : Ordered S r n P) {t : List Int} {i : Nat} (h : Ready S r n P t i) (hi : i < P.length) {z : Nat} (hz : z < n) (hz2 : Bg t z ≠ -2) (hb : Yp S n (Bg t) (P.getD i 0) z) : z = Ge S n t (P.getD i 0) := by
  have b := h.best o hi; exact (h.inv.antisymm ((hb _).2 ((b.best _).1 (.refl _))) ((b.best _).2 ((hb _).1 (.refl _))) hz hz2).symm
theorem Ready.next (o : Ordered S r n P) {t : List Int} {i : Nat} (h : Ready S r n P t i) (hi : i < P.length) : Ready S r n P (t.set (P.getD i 0) (Ge S n t (P.getD i 0) : Int)) (i + 1) := by
  have b := h.best o hi; have e := We (t := t) (y := P.getD i 0) (v := (Ge S n t (P.getD i 0) : Int)) (by rw [h.len]; exact b.hy); refine ⟨by rw [e]; exact b.inv', by rw [List.length_set]; exact h.len, fun x hx => ?_⟩; rw [e]; unfold Gy
  split
  · omega
  · rename_i hne
    refine h.done x ?_; rcases List.mem_cons.1 hx with rfl | hx
    · exact List.mem_cons_self ..
    · rw [List.take_succ_eq_append_getElem hi] at hx; rcases List.mem_append.1 hx with hx | hx
      · exact List.mem_cons_of_mem _ hx
      · rw [List.mem_singleton, ← Ag _ _ 0 hi] at hx; exact absurd hx hne
theorem Ready.more (o : Ordered S r n P) {t : List Int} (h : Ready S r n P t P.length) (i : Nat) : Ready S r n P t i :=
  ⟨h.inv, h.len, fun x hx => h.done x (by
    rw [List.take_length]; rcases List.mem_cons.1 hx with rfl | hx
    · exact List.mem_cons_self ..
    · exact List.mem_cons_of_mem _ (List.mem_of_mem_take hx))⟩
theorem Ready.full (o : Ordered S r n P) {t : List Int} (h : Ready S r n P t P.length) : Yr S r n (Bg t) := fun x hx hr => h.done x (by rw [List.take_length]; exact (o.mem x).2 hr)
theorem Ready.round (o : Ordered S r n P) {t : List Int} (h : Ready S r n P t 0) : ∀ i, i ≤ P.length → Ready S r n P (K1 S n P t i) i := by
  intro i
  induction i with
  | zero => intro _; exact h
  | succ i ih => intro hi; exact (ih (by omega)).next o (by omega)
theorem ready0 (o : Ordered S r n P) : Ready S r n P (Dx n r) 0 := by
  obtain ⟨h1, h2, h3⟩ := inv0 o; exact ⟨h1, h2, fun x hx => by simp at hx; subst hx; exact h3⟩
theorem Ready.rounds (o : Ordered S r n P) : ∀ j, Ready S r n P (Qk S n P (Dx n r) j) 0 := by
  intro j
  induction j with
  | zero => exact ready0 o
  | succ j ih => exact ((ih.round o) P.length (Nat.le_refl _)).more o 0
theorem Ready.rounds' (o : Ordered S r n P) (j : Nat) : Ready S r n P (Qk S n P (Dx n r) (j + 1)) P.length := (Ready.rounds o j).round o P.length (Nat.le_refl _)
theorem qb_round (o : Ordered S r n P) {t : List Int} {k : Nat} (h : Ready S r n P t P.length) (q : QB S r n (Bg t) fun _ => k) : QB S r n (Bg (K1 S n P t P.length)) fun _ => k + 1 := by
  have key : ∀ i, i ≤ P.length → QB S r n (Bg (K1 S n P t i)) (fun x => if x ∈ P.take i then k + 1 else k) ∧ Yr S r n (Bg (K1 S n P t i)) := by
    intro i
    induction i with
    | zero => intro _; exact ⟨by simpa [K1] using q, h.full o⟩
    | succ i ih =>
      intro hi; obtain ⟨q1, f1⟩ := ih (by omega); have rd := (h.more o 0).round o i (by omega); have b := rd.best o (by omega); have e := We (t := K1 S n P t i) (y := P.getD i 0) (v := (Ge S n (K1 S n P t i) (P.getD i 0) : Int)) (by rw [rd.len]; exact b.hy)
      constructor
      · show QB S r n (Bg ((K1 S n P t i).set _ _)) _
        rw [e]; have := b.qb (k := k) o.hS o.hr f1 (fun x _ => by split <;> omega) q1; intro x hx hp z hz; refine this x hx hp z ?_
        dsimp only at hz ⊢
        rw [List.take_succ_eq_append_getElem (by omega : i < P.length)] at hz
        by_cases e1 : x = P.getD i 0
        · rw [if_pos e1]; rwa [if_pos (List.mem_append.2 (.inr (List.mem_singleton.2 (by rw [e1, Ag _ _ _ (by omega : i < P.length)]))))] at hz
        · rw [if_neg e1]
          by_cases e2 : x ∈ P.take i
          · rw [if_pos e2]; rwa [if_pos (List.mem_append.2 (.inl e2))] at hz
          · rw [if_neg e2]
            rwa [if_neg (fun hm => by
              rcases List.mem_append.1 hm with hm | hm
              · exact e2 hm
              · rw [List.mem_singleton, ← Ag _ _ 0 (by omega : i < P.length)] at hm; exact e1 hm)] at hz
      · show Yr S r n (Bg ((K1 S n P t i).set _ _))
        rw [e]; intro x hx hr; unfold Gy
        split
        · omega
        · exact f1 x hx hr
  have q1 := (key P.length (Nat.le_refl _)).1; rw [List.take_length] at q1; have rd := (h.more o 0).round o P.length (Nat.le_refl _); intro x hx hp z hz; refine q1 x hx hp z ?_
  dsimp only at hz ⊢
  by_cases e : x ∈ P
  · rw [if_pos e]; exact hz
  · rw [if_neg e]
    have hxr : x = r := by
      rcases List.mem_cons.1 ((o.mem x).2 (rd.inv.rc x hx hp)) with h1 | h1
      · exact h1
      · exact absurd h1 e
    subst hxr; exact .root hz.av.ne k
def Kx (S : Nat → List Nat) (n : Nat) (P : List Nat) (t : List Int) : Prop := ∀ i, i < P.length → Bg t (P.getD i 0) = (Ge S n t (P.getD i 0) : Int)
theorem Ll {t : List Int} (o : Ordered S r n P) (hl : t.length = n) (h : Kx S n P t) : ∀ i, i ≤ P.length → K1 S n P t i = t := by
  intro i
  induction i with
  | zero => intro _; rfl
  | succ i ih =>
    intro hi; unfold K1; rw [ih (by omega), ← h i (by omega)]
    have hlt : P.getD i 0 < t.length := by rw [hl]; exact o.lt (List.mem_cons_of_mem _ (H6 (by omega)))
    unfold Bg; rw [Ag _ _ _ hlt]; exact List.set_getElem_self hlt
theorem stops (o : Ordered S r n P) : ∃ J, (∀ j, j < J → ¬ Kx S n P (Qk S n P (Dx n r) j)) ∧ Kx S n P (Qk S n P (Dx n r) J) := by
  obtain ⟨K, hK⟩ := avn_bound (S := S) (r := r) n
  have hq : ∀ k, QB S r n (Bg (Qk S n P (Dx n r) (k + 1))) fun _ => k := by
    intro k
    induction k with
    | zero => exact qb_zero (Ready.rounds' o 0).inv
    | succ k ih => exact qb_round o (Ready.rounds' o k) ih
  have hst : Kx S n P (Qk S n P (Dx n r) (K + 1)) := fun i hi => by
    have rd := Ready.rounds' o K; exact ((rd.more o i).best o hi).same o.hS o.hr (rd.full o) (rd.done _ (List.mem_cons_of_mem _ (by rw [List.take_length]; exact H6 hi))) (exact_of rd.inv hK (hq K))
  have key : ∀ m, (∃ J, J ≤ m ∧ Kx S n P (Qk S n P (Dx n r) J)) → ∃ J, (∀ j, j < J → ¬ Kx S n P (Qk S n P (Dx n r) j)) ∧ Kx S n P (Qk S n P (Dx n r) J) := by
    intro m
    induction m with
    | zero => rintro ⟨J, hJ, h⟩; exact ⟨J, fun j hj => by omega, h⟩
    | succ m ih =>
      rintro ⟨J, hJ, h⟩
      by_cases hm : ∃ J, J ≤ m ∧ Kx S n P (Qk S n P (Dx n r) J)
      · exact ih hm
      · exact ⟨J, fun j hj hs => hm ⟨j, by omega, hs⟩, h⟩
  exact key (K + 1) ⟨K + 1, Nat.le_refl _, hst⟩
structure DomTree (S : Nat → List Nat) (r n : Nat) (P : List Nat) (t : List Int) : Prop where
  inv : Inv S r n (pos (r :: P)) (Bg t)
  len : t.length = n
  full : Yr S r n (Bg t)
  exact_ : Exact S r n (Bg t)
theorem P0 (o : Ordered S r n P) {j : Nat} (h : Kx S n P (Qk S n P (Dx n r) j)) : DomTree S r n P (Qk S n P (Dx n r) j) := by
  have rd := Ready.rounds o j
  have hall : Ready S r n P (Qk S n P (Dx n r) j) P.length := by
    have := rd.round o P.length (Nat.le_refl _); rwa [Ll o rd.len h P.length (Nat.le_refl _)] at this
  refine ⟨rd.inv, rd.len, hall.full o, exact_fix rd.inv o.hS o.hr (hall.full o) fun y hy hne hr => ?_⟩
  have hm : y ∈ P := by
    rcases List.mem_cons.1 ((o.mem y).2 hr) with h1 | h1
    · exact absurd h1 hne
    · exact h1
  obtain ⟨i, hi, rfl⟩ := List.getElem_of_mem hm; have b := (hall.more o i).best o hi; rw [Ag _ _ _ hi] at b; have hs := h i hi; rw [Ag _ _ _ hi] at hs; exact ⟨_, hs, b.best⟩
end
end
end Go.Proofs.Ytjpacggpipflcaa

namespace Go.Proofs.Ytjpacggpipflcaa
noncomputable section
open Go Go.RowKit
set_option linter.unusedVariables false
set_option linter.unusedSimpArgs false
section
variable {S : Nat → List Nat} {s s' : Nat → Bool} {l o : List Nat}
theorem VL.before (h : VL S s l s' o) : ∀ A z B, o = A ++ z :: B → z ∈ l ∨ ∃ p ∈ B, z ∈ S p := by
  induction h with
  | nil s => intro A z B e; simp at e
  | skip h _ ih =>
    intro A z B e; rcases ih A z B e with h1 | h1
    · exact .inl (List.mem_cons_of_mem _ h1)
    · exact .inr h1
  | @step s s1 s2 y l o1 o2 h a b iha ihb =>
    intro A z B e; rcases List.append_eq_append_iff.1 e with ⟨C, hC1, hC2⟩ | ⟨C, hC1, hC2⟩
    ·
      cases C with
      | nil =>
        simp at hC2; obtain ⟨rfl, rfl⟩ := hC2; exact .inl (List.mem_cons_self ..)
      | cons c C =>
        simp at hC2; obtain ⟨rfl, hC2⟩ := hC2; rcases ihb C z B hC2 with h1 | h1
        · exact .inl (List.mem_cons_of_mem _ h1)
        · exact .inr h1
    · cases C with
      | nil =>
        simp at hC2; obtain ⟨rfl, rfl⟩ := hC2; exact .inl (List.mem_cons_self ..)
      | cons c C =>
        simp at hC2; obtain ⟨rfl, rfl⟩ := hC2; rcases iha A z C hC1 with h1 | ⟨p, hp, hz⟩
        · exact .inr ⟨y, by simp, h1⟩
        · exact .inr ⟨p, by simp [hp], hz⟩
theorem Ord.ordered {n r : Nat} {L : List Nat} (hr : r < n) (hS : ∀ x, x < n → ∀ w ∈ S x, w < n) (h : Ord S r L) : ∃ P, L = r :: P ∧ Ordered S r n P := by
  have h1 := h.nodup; have h2 := h.mem; obtain ⟨s', o, hv, rfl⟩ := h; refine ⟨o.reverse, rfl, hr, hS, h1, fun x => by rw [h2 x, rc_iff], fun i hi => ?_⟩
  have hi' : i < o.length := by simpa using hi
  have e : o.reverse = o.reverse.take i ++ o.reverse[i] :: o.reverse.drop (i + 1) := by rw [← List.drop_eq_getElem_cons hi, List.take_append_drop]
  have e2 : o = (o.reverse.drop (i + 1)).reverse ++ o.reverse[i] :: (o.reverse.take i).reverse := by
    have := congrArg List.reverse e; rw [List.reverse_reverse] at this; rw [List.reverse_append, List.reverse_cons] at this
    simpa using this
  rw [Ag _ _ _ hi]; rcases hv.before _ _ _ e2 with h3 | ⟨p, hp, hz⟩
  · exact ⟨r, List.mem_cons_self .., h3⟩
  · exact ⟨p, List.mem_cons_of_mem _ (List.mem_reverse.1 hp), hz⟩
end
def woI (S : Nat → List Nat) (w : Int) : Nat → List Nat := fun x => (S x).filter fun y => decide ((y : Int) ≠ w)
theorem woI_none (S : Nat → List Nat) : woI S (-1) = S := by
  funext x
  unfold woI; exact List.filter_eq_self.2 fun y _ => decide_eq_true (by omega)
theorem woI_nat (S : Nat → List Nat) (z : Nat) : woI S (z : Int) = wo S z := by
  funext x
  unfold woI wo
  congr 1
  funext y
  exact decide_eq_decide.2 ⟨fun h e => h (by rw [e]), fun h e => h (Int.ofNat.inj e)⟩
def Ij (L : List (List Int)) (r : Nat) (w : Int) : List Bool := if (r : Int) = w then List.replicate L.length false else Vd (woI (sN L) w) L.length ((List.replicate L.length false).set r true) L.length
theorem Fb {L : List (List Int)} (hm : Ex L = true) {r : Nat} (hr : r < L.length) {b : Nat} : (Ij L r (-1)).getD b false = true ↔ Rc (sN L) r b := by
  unfold Ij; rw [if_neg (by omega), woI_none, Xf (I9 hm) hr b, rc_iff]
theorem Ip {L : List (List Int)} (hm : Ex L = true) {r : Nat} (hr : r < L.length) {a b : Nat} (hb : b < L.length) : (Ij L r (a : Int)).getD b false = true ↔ Av (sN L) r a b := by
  unfold Ij; rw [av_iff]
  by_cases h : r = a
  · subst h; rw [if_pos rfl, F5]
    simp
  · rw [if_neg (by omega), woI_nat, Xf (S := wo (sN L) a) (fun z hz y hy => I9 hm z hz y (List.mem_filter.1 hy).1) hr b]; simp [h]
def G4 (L : List (List Int)) (r a b : Nat) : Bool := (Ij L r (-1)).getD b false && !(Ij L r (a : Int)).getD b false
theorem N6 {L : List (List Int)} (hm : Ex L = true) {r a b : Nat} (hr : r < L.length) (hb : b < L.length) : G4 L r a b = true ↔ Rc (sN L) r b ∧ ¬ Av (sN L) r a b := by
  unfold G4; rw [Bool.and_eq_true, Bool.not_eq_true', ← Bool.not_eq_true, Fb hm hr, Ip hm hr hb]
def X5 (L : List (List Int)) (r a b : Nat) : Bool := (List.range L.length).all fun c => decide (c = b) || !G4 L r c b || G4 L r c a
def Wt (L : List (List Int)) (r b : Nat) : Nat → Int
  | 0 => -2
  | a + 1 => if a ≠ b ∧ G4 L r a b = true ∧ X5 L r a b = true then (a : Int) else Wt L r b a
def Y3 (L : List (List Int)) (r b : Nat) : Int := if b = r then -1 else Wt L r b L.length
def Hl (L : List (List Int)) (r : Nat) : List Int := (List.range L.length).map (Y3 L r)
theorem O8 (L : List (List Int)) (r : Nat) : (Hl L r).length = L.length := by simp [Hl]
theorem treeD_at {L : List (List Int)} {r b : Nat} (hb : b < L.length) : (Hl L r).getD b 0 = Y3 L r b := by unfold Hl; rw [Hz hb]
theorem pick_cases (L : List (List Int)) (r b : Nat) : ∀ m, (Wt L r b m = -2 ∧ ∀ a, a < m → ¬ (a ≠ b ∧ G4 L r a b = true ∧ X5 L r a b = true)) ∨ ∃ a, a < m ∧ Wt L r b m = (a : Int) ∧ a ≠ b ∧ G4 L r a b = true ∧ X5 L r a b = true := by
  intro m
  induction m with
  | zero => exact .inl ⟨rfl, fun a ha => absurd ha (Nat.not_lt_zero a)⟩
  | succ m ih =>
    unfold Wt
    by_cases h : m ≠ b ∧ G4 L r m b = true ∧ X5 L r m b = true
    · rw [if_pos h]; exact .inr ⟨m, by omega, rfl, h⟩
    · rw [if_neg h]; rcases ih with ⟨h1, h2⟩ | ⟨a, h1, h2⟩
      · refine .inl ⟨h1, fun a ha => ?_⟩; rcases Nat.lt_succ_iff_lt_or_eq.1 ha with h3 | rfl
        · exact h2 a h3
        · exact h
      · exact .inr ⟨a, by omega, h2⟩
theorem DomTree.eq {L : List (List Int)} (hm : Ex L = true) {r : Nat} (hr : r < L.length) {P t : List _} (o : Ordered (sN L) r L.length P) (h : DomTree (sN L) r L.length P t) : t = Hl L r := by
  refine List.ext_getElem (by rw [h.len, O8]) fun b h1 h2 => ?_
  have hb : b < L.length := by rw [← h.len]; exact h1
  rw [← Ag _ _ 0 h1, ← Ag _ _ 0 h2, treeD_at hb]
  show Bg t b = _
  have hov : ∀ a b, b < L.length → Bg t b ≠ -2 → (G4 L r a b = true ↔ UpTo (Bg t) b a) := fun a b hb hp => by
    rw [N6 hm hr hb, h.exact_ b hb hp]; exact ⟨fun k => k.2, fun k => ⟨h.inv.rc b hb hp, k⟩⟩
  unfold Y3
  by_cases hbr : b = r
  · subst hbr; rw [if_pos rfl]; exact h.inv.top
  · rw [if_neg hbr]; rcases h.inv.kind b hb with hk | hk | ⟨z, hz⟩
    ·
      have hn : ¬ Rc (sN L) r b := fun k => h.full b hb k hk; rcases pick_cases L r b L.length with ⟨h3, _⟩ | ⟨a, _, _, _, h6, _⟩
      · rw [hk, h3]
      · exact absurd ((N6 hm hr hb).1 h6).1 hn
    · exact absurd hk hbr
    · obtain ⟨z1, z2, z3, z4⟩ := h.inv.up b hb z hz
      have hp : Bg t b ≠ -2 := by omega
      have hzo : G4 L r z b = true := (hov z b hb hp).2 (.up hz (.refl _))
      have hzb : z ≠ b := by rintro rfl; omega
      have hnear : X5 L r z b = true := all_range.2 fun c hc => by
        by_cases e : c = b
        · simp [e]
        · cases ho : G4 L r c b with
          | false => simp
          | true =>
            have := (hov c b hb hp).1 ho; rcases (anc_up hz).1 this with h3 | h3
            · exact absurd h3 e
            · rw [(hov c z z1 z2).2 h3]; simp
      rcases pick_cases L r b L.length with ⟨_, h3⟩ | ⟨a, h3, h4, h5, h6, h7⟩
      · exact absurd ⟨hzb, hzo, hnear⟩ (h3 z z1)
      · rw [h4, hz]; have haU := (hov a b hb hp).1 h6
        have ha1 : UpTo (Bg t) z a := by
          rcases (anc_up hz).1 haU with h8 | h8
          · exact absurd h8 h5
          · exact h8
        have hap := (h.inv.anc ha1 z1 z2).2.1
        have hza : UpTo (Bg t) a z := by
          have := all_range.1 h7 z z1; simp only [hzo, hzb, decide_false, Bool.not_true, Bool.false_or] at this; exact (hov z a h3 hap).1 this
        rw [h.inv.antisymm ha1 hza z1 z2]
end
end Go.Proofs.Ytjpacggpipflcaa

namespace Go.Proofs.Ytjpacggpipflcaa
noncomputable section
open Go Go.RowKit
set_option linter.unusedVariables false
set_option linter.unusedSimpArgs false
theorem Mn {g : Ao} (h : H2 g = true) : Ex g.Succ = true ∧ g = Jn g.Succ := by
  unfold H2 at h; rw [Bool.and_eq_true] at h; refine ⟨h.1, ?_⟩; obtain ⟨s, p⟩ := g; have := of_decide_eq_true h.2; simp only at this; unfold Jn; rw [this]
section
variable {L : List (List Int)} (hm : Ex L = true) {r : Nat} (hr : r < L.length)
include hm hr
omit hr in
omit hr in
omit hm hr in
omit hm hr in
omit hm hr in
omit hr in
omit hr in
end
def treeG (g : Ao) (r : Int) : List Int := if H2 g = true ∧ 0 ≤ r ∧ r < (g.Succ.length : Int) then Hl g.Succ r.toNat else []
end
end Go.Proofs.Ytjpacggpipflcaa

namespace Go.Proofs.Ytjpacggpipflcaa
noncomputable section
open Go Go.RowKit
set_option linter.unusedVariables false
set_option linter.unusedSimpArgs false
def upD (t : List Int) : Nat → Int → Option (List Int)
  | 0, _ => none
  | k + 1, a => if 0 ≤ a ∧ a < (t.length : Int) then (if t.getD a.toNat 0 = -1 then some [a] else (upD t k (t.getD a.toNat 0)).map fun l => a :: l) else none
def E2 (t : List Int) (a : Int) : List Int := (upD t t.length a).getD []
theorem upD_len (t : List Int) : ∀ k a q, upD t k a = some q → q.length ≤ k ∧ 1 ≤ q.length := by
  intro k
  induction k with
  | zero => intro a q h; cases h
  | succ k ih =>
    intro a q h; unfold upD at h
    split at h
    · split at h
      · cases h; simp
      · cases hu : upD t k (t.getD a.toNat 0) with
        | none => rw [hu] at h; cases h
        | some q' => rw [hu] at h; cases h; have := ih _ _ hu; simp; omega
    · cases h
theorem pathD_nil {t : List Int} {a : Int} : E2 t a = [] ↔ upD t t.length a = none := by
  unfold E2
  cases h : upD t t.length a with
  | none => simp
  | some q => have := (upD_len t _ _ _ h).2; simp; intro e; subst e; simp at this
def Of (t : List Int) (k : Nat) : Nat := ((List.range k).filter fun a => decide (t.getD a 0 = -1)).length
def okR (t : List Int) (a : Nat) : Bool := decide (t.getD a 0 = -2) || !decide (E2 t (a : Int) = [])
def Fl (t : List Int) : Bool := (List.range t.length).all (okR t) && decide (Of t t.length = 1)
theorem Qw (t : List Int) (k : Nat) : Of t (k + 1) = Of t k + if t.getD k 0 = -1 then 1 else 0 := by
  unfold Of; rw [List.range_succ, List.filter_append, List.length_append]
  by_cases h : t.getD k 0 = -1
  · rw [if_pos h]
    have : List.filter (fun a => decide (t.getD a 0 = -1)) [k] = [k] := by rw [List.filter_cons, if_pos (decide_eq_true h)]; rfl
    rw [this]; rfl
  · rw [if_neg h]
    have : List.filter (fun a => decide (t.getD a 0 = -1)) [k] = [] := by rw [List.filter_cons, if_neg (by simpa using h)]; rfl
    rw [this]; rfl
def Jo (t : List Int) (a b : Int) : Int := if Fl t = true then ((E2 t a).find? fun x => (E2 t b).contains x).getD (-2) else -2
def T7 (t : List Int) (a b : Int) : Bool := Jo t a b == a && Jo t a b != -2
theorem filt_succ (p : Nat → Bool) (k : Nat) : ((List.range (k + 1)).filter p).map Int.ofNat = ((List.range k).filter p).map Int.ofNat ++ (if p k = true then [(k : Int)] else []) := by
  rw [List.range_succ, List.filter_append, List.map_append]
  congr 1
  cases h : p k with
  | true => simp [List.filter_cons, h]
  | false => simp [List.filter_cons, h]
theorem V8 (p : Nat → Bool) (k : Nat) : (((List.range k).filter p).map Int.ofNat).length ≤ k := by
  rw [List.length_map]; exact Nat.le_trans (List.length_filter_le ..) (by simp)
end
end Go.Proofs.Ytjpacggpipflcaa

namespace Go.Proofs.Ytjpacggpipflcaa
noncomputable section
open Go Go.RowKit
set_option linter.unusedVariables false
set_option linter.unusedSimpArgs false
section
variable {S : Nat → List Nat} {r n : Nat} {P : List Nat} {t : List Int}
theorem DomTree.up (h : DomTree S r n P t) : ∀ k x, x < n → Bg t x ≠ -2 → pos (r :: P) x < k → ∃ q, upD t k (x : Int) = some q ∧ (∀ w : Int, w ∈ q ↔ ∃ z : Nat, w = (z : Int) ∧ UpTo (Bg t) x z) ∧
    ∀ p : Int → Bool, (q.find? p = none ∧ ∀ z : Nat, UpTo (Bg t) x z → p (z : Int) = false) ∨ ∃ f : Nat, q.find? p = some (f : Int) ∧ UpTo (Bg t) x f ∧ p (f : Int) = true ∧ ∀ z : Nat, UpTo (Bg t) x z → p (z : Int) = true → UpTo (Bg t) f z := by
  intro k
  induction k with
  | zero => intro x _ _ hk; exact absurd hk (Nat.not_lt_zero _)
  | succ k ih =>
    intro x hx hp hk
    have hxt : (0 : Int) ≤ (x : Int) ∧ (x : Int) < (t.length : Int) := by rw [h.len]; omega
    unfold upD; rw [if_pos hxt, Ap]; have hpx : t.getD x 0 = Bg t x := rfl; rw [hpx]; rcases h.inv.kind x hx with h1 | rfl | ⟨z, hz⟩
    · exact absurd h1 hp
    · rw [if_pos h.inv.top]; refine ⟨_, rfl, fun w => ?_, fun p => ?_⟩
      · rw [List.mem_singleton]
        constructor
        · rintro rfl; exact ⟨x, rfl, .refl _⟩
        · rintro ⟨z, rfl, hz⟩; rw [h.inv.root_anc.1 hz]
      · cases hpp : p (x : Int) with
        | false => exact .inl ⟨by simp [List.find?, hpp], fun z hz => by rw [h.inv.root_anc.1 hz]; exact hpp⟩
        | true => exact .inr ⟨x, by simp [List.find?, hpp], .refl _, hpp, fun z hz _ => hz⟩
    · obtain ⟨z1, z2, z3, z4⟩ := h.inv.up x hx z hz; rw [hz, if_neg (by omega)]; obtain ⟨q, hq1, hq2, hq3⟩ := ih z z1 z2 (by omega); rw [hq1]; refine ⟨(x : Int) :: q, rfl, fun w => ?_, fun p => ?_⟩
      · rw [List.mem_cons, hq2 w]
        constructor
        · rintro (rfl | ⟨y, rfl, hy⟩)
          · exact ⟨x, rfl, .refl _⟩
          · exact ⟨y, rfl, .up hz hy⟩
        · rintro ⟨y, rfl, hy⟩; rcases (anc_up hz).1 hy with rfl | hy
          · exact .inl rfl
          · exact .inr ⟨y, rfl, hy⟩
      · cases hpp : p (x : Int) with
        | true => exact .inr ⟨x, by simp [List.find?, hpp], .refl _, hpp, fun y hy _ => hy⟩
        | false =>
          have hf : ((x : Int) :: q).find? p = q.find? p := by simp [List.find?, hpp]
          rw [hf]; rcases hq3 p with ⟨e1, e2⟩ | ⟨f, e1, e2, e3, e4⟩
          · refine .inl ⟨e1, fun y hy => ?_⟩; rcases (anc_up hz).1 hy with rfl | hy
            · exact hpp
            · exact e2 y hy
          · refine .inr ⟨f, e1, .up hz e2, e3, fun y hy hpy => ?_⟩; rcases (anc_up hz).1 hy with rfl | hy
            · rw [hpp] at hpy; cases hpy
            · exact e4 y hy hpy
theorem Ordered.pos_lt (o : Ordered S r n P) {x : Nat} (hx : x ∈ r :: P) : pos (r :: P) x < n := by
  obtain ⟨j, hj, rfl⟩ := List.getElem_of_mem hx; rw [(Ja o.nodup hj).2]; have := H8 n (r :: P) o.nodup fun y hy => o.lt hy; omega
theorem DomTree.path (h : DomTree S r n P t) (o : Ordered S r n P) {x : Nat} (hx : x < n) (hp : Bg t x ≠ -2) : E2 t (x : Int) ≠ [] ∧ (∀ w : Int, w ∈ E2 t (x : Int) ↔ ∃ z : Nat, w = (z : Int) ∧ UpTo (Bg t) x z) ∧
    ∀ p : Int → Bool, ((E2 t (x : Int)).find? p = none ∧ ∀ z : Nat, UpTo (Bg t) x z → p (z : Int) = false) ∨ ∃ f : Nat, (E2 t (x : Int)).find? p = some (f : Int) ∧ UpTo (Bg t) x f ∧ p (f : Int) = true ∧ ∀ z : Nat, UpTo (Bg t) x z → p (z : Int) = true → UpTo (Bg t) f z := by
  have hm := (o.mem x).2 (h.inv.rc x hx hp); obtain ⟨q, h1, h2, h3⟩ := h.up n x hx hp (o.pos_lt hm)
  have e : E2 t (x : Int) = q := by unfold E2; rw [h.len, h1]; rfl
  rw [e]; refine ⟨fun e => ?_, h2, h3⟩; have := (h2 (x : Int)).2 ⟨x, rfl, .refl _⟩; rw [e] at this
  cases this
theorem DomTree.nopath (h : DomTree S r n P t) {x : Nat} (hx : x < n) (hp : Bg t x = -2) : E2 t (x : Int) = [] := by
  rw [pathD_nil]
  cases hl : t.length with
  | zero => rfl
  | succ k =>
    unfold upD; rw [if_pos ⟨by omega, by rw [h.len]; omega⟩, Ap, show t.getD x 0 = Bg t x from rfl, hp, if_neg (by omega)]
    cases k with
    | zero => rfl
    | succ k => unfold upD; rw [if_neg (by omega)]; rfl
theorem DomTree.right (h : DomTree S r n P t) (o : Ordered S r n P) : Fl t = true := by
  unfold Fl; rw [Bool.and_eq_true]
  constructor
  · refine all_range.2 fun x hx => ?_; rw [h.len] at hx; unfold okR
    by_cases hp : Bg t x = -2
    · rw [show t.getD x 0 = Bg t x from rfl, hp]; rfl
    · rw [decide_eq_false (h.path o hx hp).1]; simp
  · apply decide_eq_true
    have key : ∀ k, k ≤ n → Of t k = if r < k then 1 else 0 := by
      intro k
      induction k with
      | zero => intro _; rfl
      | succ k ih =>
        intro hk; rw [Qw, ih (by omega)]
        have hr : t.getD k 0 = -1 ↔ k = r := by
          constructor
          · intro he; rcases h.inv.kind k (by omega) with h1 | h1 | ⟨z, hz⟩
            · rw [show t.getD k 0 = Bg t k from rfl, h1] at he; omega
            · exact h1
            · rw [show t.getD k 0 = Bg t k from rfl, hz] at he; omega
          · rintro rfl; exact h.inv.top
        by_cases hkr : k = r
        · subst hkr; rw [if_neg (by omega), if_pos (hr.2 rfl), if_pos (by omega)]
        · rw [if_neg (fun e => hkr (hr.1 e))]
          by_cases h2 : r < k
          · rw [if_pos h2, if_pos (by omega)]
          · rw [if_neg h2, if_neg (by omega)]
    rw [h.len, key n (Nat.le_refl _), if_pos o.hr]
theorem DomTree.meet (h : DomTree S r n P t) (o : Ordered S r n P) {a b : Nat} (ha : a < n) (hb : b < n) (hpa : Bg t a ≠ -2) (hpb : Bg t b ≠ -2) : ∃ m : Nat, Jo t (a : Int) (b : Int) = (m : Int) ∧ MeetAt (Bg t) a b m ∧ m < n ∧ Bg t m ≠ -2 := by
  have rd : Ready S r n P t P.length := ⟨h.inv, h.len, fun x hx => by rw [List.take_length] at hx; exact h.full x (o.lt hx) ((o.mem x).1 hx)⟩; obtain ⟨c, hc1, hc2, hc3⟩ := h.inv.meets (rd.inj o) Xe _ a b (Nat.le_refl _) ha hb hpa hpb; refine ⟨c, ?_, hc1, hc2, hc3⟩; unfold Jo; rw [if_pos (h.right o)]; obtain ⟨hca, hcb⟩ := (hc1 c).1 (.refl _)
  have hin : ∀ z : Nat, (E2 t (b : Int)).contains (z : Int) = true ↔ UpTo (Bg t) b z := fun z => by
    rw [List.contains_iff_mem, (h.path o hb hpb).2.1]
    constructor
    · rintro ⟨y, hy, hu⟩; cases Int.ofNat.inj hy; exact hu
    · intro hu; exact ⟨z, rfl, hu⟩
  rcases (h.path o ha hpa).2.2 fun x => (E2 t (b : Int)).contains x with ⟨_, h2⟩ | ⟨f, h1, h2, h3, h4⟩
  · have := h2 c hca; rw [(hin c).2 hcb] at this
    cases this
  · rw [h1]; have hfc := h4 c hca ((hin c).2 hcb); have hcf := (hc1 f).2 ⟨h2, (hin f).1 h3⟩; rw [h.inv.antisymm hcf hfc hc2 hc3]
    rfl
theorem DomTree.meet_none (h : DomTree S r n P t) (o : Ordered S r n P) {a b : Nat} (ha : a < n) (hb : b < n) (hp : Bg t a = -2 ∨ Bg t b = -2) : Jo t (a : Int) (b : Int) = -2 := by
  unfold Jo; rw [if_pos (h.right o)]; rcases hp with hp | hp
  · rw [h.nopath ha hp]; rfl
  · rw [h.nopath hb hp]
    have : (E2 t (a : Int)).find? (fun x => ([] : List Int).contains x) = none := List.find?_eq_none.2 fun x _ => by simp
    rw [this]; rfl
theorem DomTree.over (h : DomTree S r n P t) (o : Ordered S r n P) {a b : Nat} (ha : a < n) (hb : b < n) : T7 t (a : Int) (b : Int) = true ↔ Bg t b ≠ -2 ∧ UpTo (Bg t) b a := by
  unfold T7; rw [Bool.and_eq_true, beq_iff_eq, bne_iff_ne]
  by_cases hpa : Bg t a = -2
  · rw [h.meet_none o ha hb (.inl hpa)]
    constructor
    · rintro ⟨h1, _⟩; omega
    · rintro ⟨h1, h2⟩; exact absurd hpa (h.inv.anc h2 hb h1).2.1
  · by_cases hpb : Bg t b = -2
    · rw [h.meet_none o ha hb (.inr hpb)]
      constructor
      · rintro ⟨h1, _⟩; omega
      · rintro ⟨h1, _⟩; exact absurd hpb h1
    · obtain ⟨m, hm1, hm2, hm3, hm4⟩ := h.meet o ha hb hpa hpb; rw [hm1]
      constructor
      · rintro ⟨h1, _⟩; have h1 := Int.ofNat.inj h1; subst h1; exact ⟨hpb, ((hm2 _).1 (.refl _)).2⟩
      · rintro ⟨_, h2⟩; have := (hm2 a).2 ⟨.refl _, h2⟩; have h3 := ((hm2 m).1 (.refl _)).1; rw [h.inv.antisymm h3 this ha hpa]; exact ⟨rfl, by omega⟩
theorem DomTree.over_dom (h : DomTree S r n P t) (o : Ordered S r n P) {a b : Nat} (ha : a < n) (hb : b < n) : T7 t (a : Int) (b : Int) = true ↔ Rc S r b ∧ ¬ Av S r a b := by
  rw [h.over o ha hb]
  constructor
  · rintro ⟨h1, h2⟩; exact ⟨h.inv.rc b hb h1, (h.exact_ b hb h1 a).1 h2⟩
  · rintro ⟨h1, h2⟩; have := h.full b hb h1; exact ⟨this, (h.exact_ b hb this a).2 h2⟩
end
section
variable {L : List (List Int)} (hm : Ex L = true) {r : Nat} (hr : r < L.length)
include hm hr
theorem treeD_dom : ∃ P, Ord (sN L) r (r :: P) ∧ Ordered (sN L) r L.length P ∧ DomTree (sN L) r L.length P (Hl L r) := by
  obtain ⟨O, hO⟩ := Ord.exist (I9 hm) hr; obtain ⟨P, rfl, o⟩ := hO.ordered hr (I9 hm); obtain ⟨J, _, hJ⟩ := stops o; have hd := P0 o hJ; refine ⟨P, hO, o, ?_⟩; rw [← hd.eq hm hr o]; exact hd
end
end
end Go.Proofs.Ytjpacggpipflcaa

namespace Go.Proofs.Ytjpacggpipflcaa
noncomputable section
open Go Go.RowKit
set_option linter.unusedVariables false
set_option linter.unusedSimpArgs false
def M1 (L : List (List Int)) (a b : Nat) : Bool := Nb L a b && G4 L 0 b a
def Hy (L : List (List Int)) (a m : Nat) : List (Int × Int) := ((List.range m).filter (M1 L a)).map fun b => ((a : Int), ((b : Nat) : Int))
def L6 (L : List (List Int)) (m : Nat) : List (Int × Int) := ((List.range m).map fun a => Hy L a L.length).flatten
def Cj (L : List (List Int)) : List (Int × Int) := L6 L L.length
def J7 (L : List (List Int)) (x : Nat) : Bool := (Ij L 0 (-1)).getD x false
def Hr (L : List (List Int)) (h : Nat) : Bool := (Cj L).any fun p => p.2 == (h : Int)
def inBy (L : List (List Int)) (h x : Nat) (p : Int × Int) : Bool := (p.2 == (h : Int)) && (decide (x ≠ h) && (J7 L x && (Ij L x (h : Int)).getD p.1.toNat false))
def Pr (L : List (List Int)) (h x : Nat) : Bool := decide (x = h) || (Cj L).any (inBy L h x)
def F7 (L : List (List Int)) (h : Nat) : List Int := ((List.range L.length).filter (Pr L h)).map Int.ofNat
def Ik (L : List (List Int)) : List A2 := ((List.range L.length).filter (Hr L)).map fun h => ⟨((h : Nat) : Int), F7 L h⟩
section
variable {L : List (List Int)}
theorem Xu (a m : Nat) : (Hy L a m).length ≤ m := by
  unfold Hy; rw [List.length_map]; exact Nat.le_trans (List.length_filter_le ..) (by simp)
theorem W9 (m : Nat) : L6 L (m + 1) = L6 L m ++ Hy L m L.length := by
  unfold L6; rw [List.range_succ, List.map_append, List.flatten_append]
  simp
theorem Rw (m : Nat) : (L6 L m).length ≤ m * L.length := by
  have := Yo (List.range m) (fun a => Hy L a L.length) L.length fun a _ => Xu a _; rw [List.length_range] at this; exact this
theorem mem_backs {p : Int × Int} : p ∈ Cj L ↔ ∃ a b : Nat, p = ((a : Int), (b : Int)) ∧ a < L.length ∧ b < L.length ∧ M1 L a b = true := by
  unfold Cj L6 Hy; simp only [List.mem_flatten, List.mem_map, List.mem_range]
  constructor
  · rintro ⟨_, ⟨a, ha, rfl⟩, hd⟩; obtain ⟨b, hb, rfl⟩ := List.mem_map.1 hd; obtain ⟨h1, h2⟩ := List.mem_filter.1 hb; exact ⟨a, b, rfl, ha, List.mem_range.1 h1, h2⟩
  · rintro ⟨a, b, rfl, ha, hb, h⟩; exact ⟨_, ⟨a, ha, rfl⟩, List.mem_map.2 ⟨b, List.mem_filter.2 ⟨List.mem_range.2 hb, h⟩, rfl⟩⟩
theorem Pl (h : L.length ≤ 64) : (Cj L).length ≤ 4096 := Nat.le_trans (Rw _) (Nat.mul_le_mul h h)
variable (hm : Ex L = true)
include hm
end
def Ni (g : Ao) : List (Int × Int) := if H2 g = true then Cj g.Succ else []
def D3 (g : Ao) : List A2 := if H2 g = true then Ik g.Succ else []
end
end Go.Proofs.Ytjpacggpipflcaa

namespace Go.Proofs.Ytjpacggpipflcaa
noncomputable section
open Go Go.RowKit
set_option linter.unusedVariables false
set_option linter.unusedSimpArgs false
def F0 (W : List (Int × Int)) (a y : Int) : Bool := W.all fun p => !((p.1 == a) && (p.2 == y))
def Jh (L : List (List Int)) (W : List (Int × Int)) (a : Nat) : List Int := (L.getD a []).filter (F0 W (a : Int))
def Mv (L : List (List Int)) (W : List (Int × Int)) : List (List Int) := (List.range L.length).map (Jh L W)
def On (C : List (List Int)) (a : Nat) : Bool := (Ij C 0 (-1)).getD a false && (C.getD a []).any fun y => (Ij C y.toNat (-1)).getD a false
def Ng (C : List (List Int)) : Bool := (List.range C.length).any (On C)
def Fs (L : List (List Int)) (W : List (Int × Int)) : Bool := Ng (Mv L W)
section
variable {L : List (List Int)}
theorem Gz {W : List (Int × Int)} : (Mv L W).length = L.length := by simp [Mv]
theorem cutL_at {W : List (Int × Int)} {a : Nat} (ha : a < L.length) : (Mv L W).getD a [] = Jh L W a := by unfold Mv; rw [Hz ha]
theorem Rq : Mv L [] = L := by
  have e : L = (List.range L.length).map fun i => L.getD i [] := List.ext_getElem (by simp) fun i h1 h2 => by rw [List.getElem_map, List.getElem_range, Ag _ _ _ h1]
  conv => rhs; rw [e]
  unfold Mv; refine Fq fun i hi => ?_; unfold Jh; exact List.filter_eq_self.2 (fun y _ => by simp [F0])
variable (hm : Ex L = true)
include hm
theorem Xi (W : List (Int × Int)) : Ex (Mv L W) = true := by
  obtain ⟨h1, h2, h3⟩ := mayS_iff.1 hm; refine mayS_iff.2 ⟨by rw [Gz]; exact h1, by rw [Gz]; exact h2, fun i hi => ?_⟩; rw [Gz] at hi; rw [cutL_at hi, Gz]; unfold Jh; exact Z8 (fun x hx => Gc (h3 i hi) (List.mem_filter.1 hx).1) (List.Pairwise.filter _ (Xp (h3 i hi)))
end
def Zw (g : Ao) : Bool := H2 g && !Fs g.Succ (Cj g.Succ)
def Va (g : Ao) : Bool := H2 g && !Fs g.Succ []
def Ig (l : List A2) (x : Int) : Nat := (l.filter fun z => z.Body.contains x).length
structure Vl : Prop where
  backs : ∀ (g : Ao), Fits g.Succ → Fits g.Pred → D9 g = some (Ni g)
  all : ∀ (g : Ao), Fits g.Succ → Fits g.Pred → Fm g = some (D3 g)
  depth : ∀ (g : Ao) (x : Int), Fits g.Succ → Fits g.Pred → D8 g x = some ((Ig (D3 g) x : Nat) : Int)
  red : ∀ (g : Ao), Fits g.Succ → Fits g.Pred → Dv g = some (Zw g)
  fwd : ∀ (g : Ao), Fits g.Succ → Fits g.Pred → D1 g = some (Va g)
theorem bodyL_len (L : List (List Int)) (h : Nat) : (F7 L h).length ≤ L.length := V8 _ _
theorem Yu (g : Ao) : (D3 g).length ≤ 64 ∧ ∀ l ∈ D3 g, l.Body.length ≤ 64 := by
  unfold D3
  split
  · rename_i h
    have h64 := (mayS_iff.1 (Mn h).1).2.1; refine ⟨?_, fun l hl => ?_⟩
    · unfold Ik; rw [List.length_map]; exact Nat.le_trans (List.length_filter_le ..) (by simpa using h64)
    · unfold Ik at hl; obtain ⟨k, _, rfl⟩ := List.mem_map.1 hl; exact Nat.le_trans (bodyL_len _ _) h64
  · exact ⟨by simp, fun l hl => by cases hl⟩
def F3 : List (List Int) := [[1], [2, 3], [1], []]
theorem J9 : Ex F3 = true := by decide
theorem U4 : Ik F3 = [⟨1, [1, 2]⟩] := by decide +kernel
theorem Vc : Cj F3 = [(2, 1)] := by decide +kernel
theorem Zh : Fs F3 (Cj F3) = false := by decide +kernel
theorem Yk : Fs F3 [] = true := by decide +kernel
theorem m_awake10 (F : Vl) : Dq = some true := by
  unfold Dq
  show Option.bind (Ek F3) _ = _
  obtain ⟨h1, h2⟩ := N9 J9; have hG : H2 (Jn F3) = true := N4 J9
  have hl : D3 (Jn F3) = [⟨1, [1, 2]⟩] := by unfold D3; rw [if_pos hG]; exact U4
  have hb : Ni (Jn F3) = [(2, 1)] := by unfold Ni; rw [if_pos hG]; exact Vc
  have hr : Zw (Jn F3) = true := by unfold Zw; rw [hG, Bool.true_and]; show (!Fs F3 (Cj F3)) = true; rw [Zh]; rfl
  have hf : Va (Jn F3) = false := by unfold Va; rw [hG, Bool.true_and]; show (!Fs F3 []) = false; rw [Yk]; rfl
  rw [Zb F3 (Ih (Ju J9)), J9, cond_true, Option.bind_some]; simp only [F.all _ h1 h2, F.backs _ h1 h2, F.depth _ _ h1 h2, F.red _ h1 h2, F.fwd _ h1 h2, Option.bind_some, hl, hb, hr, hf]; have i0 : A8 (0 : Int) ([⟨1, [1, 2]⟩] : List A2).length := ⟨by decide, by decide⟩; have i1 : A8 (0 : Int) ([((2 : Int), (1 : Int))] : List (Int × Int)).length := ⟨by decide, by decide⟩
  have hi : Cr [1, 2] ([(1 : Int), (2 : Int)] : List (Int)) = some true := by rw [m_ints _ _ (by decide)]; rfl
  rw [Ad (fun _ => i0), Ad (fun _ => i0)]
  show Option.bind (Cr [1, 2] [(1 : Int), (2 : Int)]) _ = _
  rw [hi, Option.bind_some, Ad (fun _ => i1)]; have d2 : Ig [⟨1, [1, 2]⟩] 2 = 1 := rfl; have d3 : Ig [⟨1, [1, 2]⟩] 3 = 0 := rfl; rw [d2, d3]
  rfl
theorem Z2 (l : List A2) (x : Int) {m : Nat} (hm : m < l.length) : Ig (l.take (m + 1)) x = Ig (l.take m) x + if (l.getD m default).Body.contains x = true then 1 else 0 := by
  unfold Ig; rw [List.take_succ_eq_append_getElem hm, List.filter_append, List.length_append, Ag _ _ _ hm]
  congr 1
  rw [List.filter_cons, List.filter_nil]
  split <;> rfl
theorem deepN_le (l : List A2) (x : Int) : Ig l x ≤ l.length := List.length_filter_le ..
end
end Go.Proofs.Ytjpacggpipflcaa
