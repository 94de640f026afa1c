/-
  The machine, the program's functions and the laws' arithmetic: part 5 of 6.
-/
import Derived.Test.YtjpacggpipflcaaPk4
set_option linter.unusedVariables false
set_option linter.unusedSimpArgs false
namespace Go.Proofs.Ytjpacggpipflcaa
noncomputable section
open Go Go.RowKit
set_option linter.unusedVariables false
set_option maxRecDepth 100000
set_option maxHeartbeats 2000000
def Dr (a_list : List (Int)) : (Int × List (Bool)) → Option (LR (Int × List (Bool)) (List (Bool))) :=
  fun ((i1, l2) : (Int × List (Bool))) => (bif (decide ((i1 : Int) < (a_list.length : Int))) then (Cj (A6 i1 a_list.length) (Cj (A6 (a_list.getD (i1).toNat (0 : Int)) 64) (some (.next ((Bg (i1 + (1 : Int))), (Dm 64 false l2 ((a_list.getD (i1).toNat (0 : Int))).toNat true)))))) else (some (.done l2)))
def U7 (a_list : List (Int)) : AV := (AV.list 1 Ac (0 : Int) a_list .none)
def Qq := (fun i => eB ((List.replicate 64 false).getD i false))
def Q175 (l2 : List (Bool)) : List (Nat × Own) := [(2, .arr 1 53 64 Qq), (3, .arr 1 53 64 (fun i => eB (l2.getD i false)))]
def Q173 (a_list : List (Int)) (i1 : Int) : List (Nat × AV) := [(2, (.vpt 2 64 0 0)), (3, (.vpt 3 64 0 0)), (6, (U7 a_list)), (7, (.int .i64 (a_list.length : Int))), (8, (.int .i64 i1))]
def Fa (a_list : List (Int)) : Option (List (Bool)) :=
  ((At (S := (Int × List (Bool))) (X := List (Bool)) (Dr a_list) ((0 : Int), (List.replicate 64 false))).bind (fun x6 => ((some x6))))
theorem Rv (a_list : List (Int)) (r : List (Bool)) (h : Fa a_list = some r) : Spec Try.prog 30 [(AV.list 1 Ac (0 : Int) a_list .none)] [] (.agg (Fe r)) [] := by
  refine Ao (fn := Try.f30) Try.func30 rfl rfl (by kernel_rfl) (fun Γ hn hΓ => ?_); have hq : RgQ Try.prog Γ 16 [] := ⟨hn, mix, hΓ⟩; unfold Fa at h; refine B6 [] [(2, (.vpt 2 64 0 0))] ⟨[(0, (U7 a_list)), (2, (.vpt 2 64 0 0))], [(2, .arr 1 53 64 (fun i_ => AV.eraseAll (fun n_ => Ca n_ [2]) ((fun i => (((List.replicate 64 [(.bool false)]).flatten).drop (i * 1)).take 1) i_)))], []⟩ [] hq trivial ?_; refine Af (Cm (st' := ⟨[(0, (U7 a_list)), (2, (.vpt 2 64 0 0))], [(2, .arr 1 53 64 Qq)], []⟩) (TmpsLe.refl _) (.arr (H2 (e := eB) (d := false) (z := [(.bool false)]) rfl rfl rfl) .nil)) ?_; refine B6 [] [(3, (.vpt 3 64 0 0))] ⟨[(0, (U7 a_list)), (2, (.vpt 2 64 0 0)), (3, (.vpt 3 64 0 0))], [(2, .arr 1 53 64 Qq), (3, .arr 1 53 64 (fun i_ => AV.eraseAll (fun n_ => Ca n_ [2, 3]) ((fun i => (((List.replicate 64 [(.bool false)]).flatten).drop (i * 1)).take 1) i_)))], []⟩ [] hq trivial ?_; refine Af (Cm (st' := ⟨[(0, (U7 a_list)), (2, (.vpt 2 64 0 0)), (3, (.vpt 3 64 0 0))], [(2, .arr 1 53 64 Qq), (3, .arr 1 53 64 Qq)], []⟩) (TmpsLe.refl _) (.same (.arr (H2 (e := eB) (d := false) (z := [(.bool false)]) rfl rfl rfl) .nil))) ?_; refine Ae ?_; refine Au ⟨[(2, (.vpt 2 64 0 0)), (3, (.vpt 3 64 0 0)), (6, (U7 a_list)), (7, (.int .i64 (a_list.length : Int))), (8, (.int .i64 (0 : Int)))], [(2, .arr 1 53 64 Qq), (3, .arr 1 53 64 Qq)], []⟩ hq ?_; refine Ah ?_; refine Af (st' := (fun ((i1, l2) : (Int × List (Bool))) => (⟨(Q173 a_list i1), (Q175 l2), []⟩ : St)) ((0 : Int), (List.replicate 64 false))) (Le.refl _ _) ?_; obtain ⟨x6, hx6, h⟩ := bind_some h; refine Bc (fun ((i1, l2) : (Int × List (Bool))) => (⟨(Q173 a_list i1), (Q175 l2), []⟩ : St)) _ (fun (l3 : List (Bool)) (e : Exit) (st : St) => e = (.exit 0) ∧ Le Γ st (⟨[(2, (.vpt 2 64 0 0)), (3, (.vpt 3 64 0 0))], [(2, .arr 1 53 64 Qq), (3, .arr 1 53 64 (fun i => eB (l3.getD i false)))], []⟩ : St)) ?_ hx6 ?_
  · rintro ⟨i1, l2⟩ y h; unfold Dr at h; refine Au ⟨[(2, (.vpt 2 64 0 0)), (3, (.vpt 3 64 0 0)), (6, (U7 a_list)), (7, (.int .i64 (a_list.length : Int))), (8, (.int .i64 i1)), (9, (.bool (decide ((i1 : Int) < (a_list.length : Int)))))], (Q175 l2), []⟩ hq ?_; refine Ae ?_; refine Ak (decide ((i1 : Int) < (a_list.length : Int))) (by kernel_rfl) (fun hb => ?_) (fun hb => ?_)
    · replace h := Aq hb h; clear hb; refine Aj ?_; refine Aa ?_; refine Ae ?_; refine Ah ?_; obtain ⟨hc4, h⟩ := Ab h; refine B6 [] [] ⟨[(2, (.vpt 2 64 0 0)), (3, (.vpt 3 64 0 0)), (5, (.int .i64 (a_list.getD (i1).toNat (0 : Int)))), (6, (U7 a_list)), (7, (.int .i64 (a_list.length : Int))), (8, (.int .i64 i1))], (Q175 l2), []⟩ [(A6 i1 a_list.length)] hq ⟨hc4, trivial⟩ ?_; obtain ⟨hc5, h⟩ := Ab h; refine rg [] [] ⟨(Q173 a_list i1), [(2, .arr 1 53 64 Qq), (3, .arr 1 53 64 (fun i_ => AV.eraseAll (fun n_ => Ca n_ [2, 3]) ((Fc (fun i => eB (l2.getD i false)) ((a_list.getD (i1).toNat (0 : Int))).toNat 0 [(.bool true)]) i_)))], []⟩ [(A6 (a_list.getD (i1).toNat (0 : Int)) 64), (64 = 64)] hq ⟨hc5, rfl, trivial⟩ ?_; refine Am ?_; refine Aa ?_; refine Af (Cm (st' := ⟨(Q173 a_list i1), [(2, .arr 1 53 64 Qq), (3, .arr 1 53 64 (fun i => eB ((Dm 64 false l2 ((a_list.getD (i1).toNat (0 : Int))).toNat true).getD i false)))], []⟩) (TmpsLe.refl _) (.same (.arr (Bi rfl (fun k_ hk_ => (congrArg (AV.eraseAll (fun n_ => Ca n_ [2, 3])) ((E9 (fun _ _ => rfl) (Dv hc5) rfl) k_ hk_)).trans rfl)) .nil))) ?_; refine Lr ⟨[(2, (.vpt 2 64 0 0)), (3, (.vpt 3 64 0 0)), (6, (U7 a_list)), (7, (.int .i64 (a_list.length : Int))), (8, (.int .i64 (Bg (i1 + (1 : Int)))))], [(2, .arr 1 53 64 Qq), (3, .arr 1 53 64 (fun i => eB ((Dm 64 false l2 ((a_list.getD (i1).toNat (0 : Int))).toNat true).getD i false)))], []⟩ hq ?_; obtain rfl := OI h; exact ⟨rfl, Le.refl _ _⟩
    · replace h := Aw hb h; clear hb; refine Bb ?_; refine A2 ?_; obtain rfl := OI h; exact ⟨(by intro hh; cases hh), rfl, Fx [2, 3] [2, 3] hq⟩
  · clear hx6; rintro e st' ⟨rfl, hl7⟩; refine Ay ?_; refine Aa ?_; refine Af hl7 ?_; refine B6 [] [] ⟨[(2, (.vpt 2 64 0 0))], [(2, .arr 1 53 64 (fun i_ => AV.eraseAll (fun n_ => Ca n_ [2]) ((fun i_ => (((Fe x6)).drop (i_ * 1)).take 1) i_)))], []⟩ [(64 = 64), (64 = 64)] hq ⟨rfl, rfl, trivial⟩ ?_; refine Af (Cm (st' := ⟨[(2, (.vpt 2 64 0 0))], [(2, .arr 1 53 64 (fun i => eB (x6.getD i false)))], []⟩) (TmpsLe.refl _) (.arr (Bi rfl (fun k_ hk_ => (congrArg (AV.eraseAll (fun n_ => Ca n_ [2])) ((J4 (n := 64) (sz := 1) (f := (fun i => eB (x6.getD i false))) (fun _ _ => rfl)) k_ hk_)).trans rfl)) .nil)) ?_; refine Ar ?_; obtain rfl := OI h; exact ⟨.inl rfl, [], by kernel_rfl⟩
def Yl : AV := (AV.list 1 Ac (0 : Int) ([] : List Int) .exact)
def Q177 := (⟨[(2, (.vsl 36002 ([] : List Int).length))], [(36002, .arr 1 3 (([] : List Int).length) (fun i => Ac (([] : List Int).getD i (0 : Int))))], []⟩ : St)
def Cx (a_s : List (Int)) : Option (List (Int)) :=
  (Cj (a_s.length ≤ room) (some a_s))
theorem Ia (a_s : List (Int)) (r : List (Int)) (h : Cx a_s = some r) : Spec Try.prog 42 [(AV.list 1 Ac (0 : Int) a_s .none)] [] (.vsl 20000 r.length) [(20000, .arr 1 3 r.length (fun i => Ac (r.getD i (0 : Int))))] := by
  refine Ao (fn := Try.f42) Try.func42 rfl rfl (by kernel_rfl) (fun Γ hn hΓ => ?_); have hq : RgQ Try.prog Γ 8 [] := ⟨hn, mix, hΓ⟩; unfold Cx at h; refine B6 [] [(2, Yl)] ⟨[(0, (AV.list 1 Ac (0 : Int) a_s .none))], [], []⟩ [(AVle (.slice 0 0 (fun _ => []) .exact) Yl)] hq ⟨D2, trivial⟩ ?_; refine Ae ?_; refine Au ⟨[(0, (AV.list 1 Ac (0 : Int) a_s .none)), (4, (.nilq true a_s.length))], [], []⟩ hq ?_; refine V2 true a_s.length (by kernel_rfl) (fun hb => ?_) (fun hb => ?_)
  · replace h := nil_at (some ([] : List Int)) (fun (l2 : List Int) => (Cj (l2.length ≤ room) (some l2))) h (hb rfl) rfl (fun h0 => by first | exact h0 | simpa [Cj, room] using h0); clear hb; refine B6 [] [(2, Yl)] ⟨[(2, Yl)], [], []⟩ [(AVle (.slice 0 0 (fun _ => []) .exact) Yl)] hq ⟨D2, trivial⟩ ?_; refine Af (st' := Q177) (Le.trans (le_arr (t := 2) (nm := 36002) (sz' := 1) (fun i => Ac (([] : List Int).getD i (0 : Int))) 3 rfl rfl) (Fx (st' := Q177) [2] [36002] hq)) ?_; refine Ar ?_; refine A0 ?_; obtain rfl := OI h; exact ⟨.inl rfl, [(36002, 20000)], by kernel_rfl⟩
  · clear hb; refine Aj ?_; refine Aa ?_; obtain ⟨hc1, h⟩ := Ab h; refine B6 [] [(5, Yl), (7, .vsl 7 0)] ⟨[(2, (.vsl 7 a_s.length))], [(7, .arr 1 3 a_s.length (fun i => Ac (a_s.getD i (0 : Int))))], []⟩ [(AVle (.slice 1 0 (fun i => ([] : List (List AV)).getD i []) .exact) Yl), (a_s.length ≤ room)] hq ⟨Fj rfl (fun i hi => absurd hi (Nat.not_lt_zero i)), hc1, trivial⟩ ?_; refine Ar ?_; obtain rfl := OI h; exact ⟨.inl rfl, [(7, 20000)], by kernel_rfl⟩
def B0 (a_m : List (Bool)) : (List (Int) × Int) → Option (LR (List (Int) × Int) (List (Int))) :=
  fun ((l1, i2) : (List (Int) × Int)) => (bif (decide ((i2 : Int) < (64 : Int))) then (Option.bind (α := List (Int)) (Cj (A6 i2 64) (bif (a_m.getD (i2).toNat false) then (Cj (l1.length + ([i2] : List (Int)).length ≤ room) (some ((l1 ++ ([i2] : List (Int)))))) else (some (l1)))) (fun x7 => ((some (.next (x7, (Bg (i2 + (1 : Int))))))))) else (some (.done l1)))
def Pw (i2 : Int) := ([i2] : List (Int))
def Q179 (l1 : List (Int)) : AV := (AV.list 1 Ac (0 : Int) l1 (.own 5003))
def Q178 : AV := (AV.list 1 Ac (0 : Int) ([] : List Int) .exact)
def Di (a_m : List (Bool)) : Option (List (Int)) :=
  ((At (S := (List (Int) × Int)) (X := List (Int)) (B0 a_m) (([] : List Int), (0 : Int))).bind (fun x9 => ((some x9))))
theorem Hl (a_m : List (Bool)) (r : List (Int)) (h : Di a_m = some r) : Spec Try.prog 46 [(.agg (Fe a_m))] [] (AV.list 1 Ac (0 : Int) r (.own 20000)) [(20000, .tok 1 3 r.length)] := by
  refine Ao (fn := Try.f46) Try.func46 rfl rfl (by kernel_rfl) (fun Γ hn hΓ => ?_); have hq : RgQ Try.prog Γ 18 [] := ⟨hn, mix, hΓ⟩; unfold Di at h; refine B6 [] [(1, (.vpt 1 64 0 0)), (2, Q178)] ⟨[(1, (.vpt 1 64 0 0))], [(1, .arr 1 53 64 (fun i_ => AV.eraseAll (fun n_ => Ca n_ [1]) ((fun i_ => (((Fe a_m)).drop (i_ * 1)).take 1) i_)))], []⟩ [(AVle (.slice 0 0 (fun _ => []) .exact) Q178)] hq ⟨D2, trivial⟩ ?_; refine Af (Cm (st' := ⟨[(1, (.vpt 1 64 0 0))], [(1, .arr 1 53 64 (fun i => eB (a_m.getD i false)))], []⟩) (TmpsLe.refl _) (.arr (Bi rfl (fun k_ hk_ => (congrArg (AV.eraseAll (fun n_ => Ca n_ [1])) ((J4 (n := 64) (sz := 1) (f := (fun i => eB (a_m.getD i false))) (fun _ _ => rfl)) k_ hk_)).trans rfl)) .nil)) ?_; refine B6 [] [(3, Q178)] ⟨[(1, (.vpt 1 64 0 0)), (3, Q178)], [(1, .arr 1 53 64 (fun i => eB (a_m.getD i false)))], []⟩ [(AVle (.slice 0 0 (fun _ => []) .exact) Q178)] hq ⟨D2, trivial⟩ ?_; refine Ae ?_; refine B6 [] [] ⟨[(3, Q178), (6, (.agg (Fe a_m))), (7, (.int .i64 (0 : Int)))], [], []⟩ [(64 = 64)] hq ⟨rfl, trivial⟩ ?_; refine Ah ?_; refine Af (st' := (fun ((l1, i2) : (List (Int) × Int)) => (⟨[(3, (Q179 l1)), (6, (.agg (Fe a_m))), (7, (.int .i64 i2))], [(5003, .tok 1 3 l1.length)], []⟩ : St)) (([] : List Int), (0 : Int))) (Le.trans (Om (t := 3) (nm := 5003) (sz' := 1) (fun i => Ac (([] : List Int).getD i (0 : Int))) 3 rfl rfl (.inl ⟨rfl, rfl⟩) (fun h_ => absurd h_ (by decide))) (Fx (st' := ⟨[(3, (AV.list 1 Ac (0 : Int) ([] : List Int) (.own 5003))), (6, (.agg (Fe a_m))), (7, (.int .i64 (0 : Int)))], [(5003, .tok 1 3 (([] : List Int).length))], []⟩) [3, 6, 7] [5003] hq)) ?_; obtain ⟨x9, hx9, h⟩ := bind_some h; refine Bc (fun ((l1, i2) : (List (Int) × Int)) => (⟨[(3, (Q179 l1)), (6, (.agg (Fe a_m))), (7, (.int .i64 i2))], [(5003, .tok 1 3 l1.length)], []⟩ : St)) _ (fun (l3 : List (Int)) (e : Exit) (st : St) => e = (.exit 0) ∧ Le Γ st (⟨[(3, (AV.list 1 Ac (0 : Int) l3 (.own 5003)))], [(5003, .tok 1 3 l3.length)], []⟩ : St)) ?_ hx9 ?_
  · rintro ⟨l1, i2⟩ y h; unfold B0 at h; refine Au ⟨[(3, (Q179 l1)), (6, (.agg (Fe a_m))), (7, (.int .i64 i2)), (8, (.bool (decide ((i2 : Int) < (64 : Int)))))], [(5003, .tok 1 3 l1.length)], []⟩ hq ?_; refine Ae ?_; refine Ak (decide ((i2 : Int) < (64 : Int))) (by kernel_rfl) (fun hb => ?_) (fun hb => ?_)
    · replace h := Aq hb h; clear hb; refine Aj ?_; refine Aa ?_; refine Ae ?_; obtain ⟨x7, hx7, h⟩ := bind_some h; refine E6 (fun (l4 : List (Int)) (e : Exit) (st : St) => e = .normal ∧ Le Γ st (⟨[(3, (AV.list 1 Ac (0 : Int) l4 (.own 5003))), (6, (.agg (Fe a_m))), (7, (.int .i64 i2))], [(5003, .tok 1 3 l4.length)], []⟩ : St)) hx7 ?_ ?_
      · clear h hx7; intro y h; refine Ah ?_; obtain ⟨hc5, h⟩ := Ab h; refine B6 [] [(10, (.bool (a_m.getD (i2).toNat false)))] ⟨[(3, (Q179 l1)), (4, (.int .i64 i2)), (5, (.bool (a_m.getD (i2).toNat false))), (6, (.agg (Fe a_m))), (7, (.int .i64 i2))], [(5003, .tok 1 3 l1.length)], []⟩ [(A6 i2 64), (AVle ((Fe a_m).getD (i2).toNat .any) (.bool (a_m.getD (i2).toNat false)))] hq ⟨hc5, (Aaa (n := 64) (f := fun i => eB (a_m.getD i false)) rfl (fun _ _ => rfl) (Dv hc5) rfl), trivial⟩ ?_; refine Au ⟨[(3, (Q179 l1)), (4, (.int .i64 i2)), (6, (.agg (Fe a_m))), (7, (.int .i64 i2)), (11, (.bool (a_m.getD (i2).toNat false)))], [(5003, .tok 1 3 l1.length)], []⟩ hq ?_; refine Ak (a_m.getD (i2).toNat false) (by kernel_rfl) (fun hb => ?_) (fun hb => ?_)
        · replace h := Aq hb h; clear hb; obtain ⟨hc6, h⟩ := Ab h; refine rg [] [(14, (AV.list 1 Ac (0 : Int) (Pw i2) .exact)), (15, (AV.list 1 Ac (0 : Int) (l1 ++ (Pw i2)) (.own 5003)))] ⟨[(3, (AV.list 1 Ac (0 : Int) (l1 ++ (Pw i2)) (.own 5003))), (6, (.agg (Fe a_m))), (7, (.int .i64 i2))], [(5003, .tok 1 3 ((l1 ++ (Pw i2)).length))], []⟩ [(AVle (.slice 1 1 (fun i => ([[(.int .i64 i2)]] : List (List AV)).getD i []) .exact) (AV.list 1 Ac (0 : Int) (Pw i2) .exact)), (l1.length = l1.length), (l1.length + (Pw i2).length ≤ room), (AVle (.slice 1 (l1.length + (Pw i2).length) (Ez l1.length (fun i => Ac (l1.getD i (0 : Int))) (fun i => Ac ((Pw i2).getD i (0 : Int)))) (.own 5003)) (AV.list 1 Ac (0 : Int) (l1 ++ (Pw i2)) (.own 5003))), (l1.length + (Pw i2).length = (l1 ++ (Pw i2)).length)] hq ⟨(Fj rfl (fun i hi => E2 (e := Ac) (d := (0 : Int)) (Pw i2) i hi)), rfl, hc6, M0, (D5 _ _), trivial⟩ ?_; refine Am ?_; obtain rfl := OI h; exact ⟨rfl, Le.refl _ _⟩
        · replace h := Aw hb h; clear hb; refine Aj ?_; refine Am ?_; obtain rfl := OI h; exact ⟨rfl, Fx [3, 6, 7] [5003] hq⟩
      · clear hx7; rintro e st' ⟨rfl, hl8⟩; refine Aa ?_; refine Af hl8 ?_; refine Lr ⟨[(3, (AV.list 1 Ac (0 : Int) x7 (.own 5003))), (6, (.agg (Fe a_m))), (7, (.int .i64 (Bg (i2 + (1 : Int)))))], [(5003, .tok 1 3 x7.length)], []⟩ hq ?_; obtain rfl := OI h; exact ⟨rfl, Le.refl _ _⟩
    · replace h := Aw hb h; clear hb; refine Bb ?_; refine A2 ?_; obtain rfl := OI h; exact ⟨(by intro hh; cases hh), rfl, Fx [3] [5003] hq⟩
  · clear hx9; rintro e st' ⟨rfl, hl10⟩; refine Ay ?_; refine Aa ?_; refine Af hl10 ?_; refine Au ⟨[(2, (AV.list 1 Ac (0 : Int) x9 (.own 5003)))], [(5003, .tok 1 3 x9.length)], []⟩ hq ?_; refine Ar ?_; obtain rfl := OI h; exact ⟨.inl rfl, [(5003, 20000)], by kernel_rfl⟩
def Df (a_pred : List (List (Int))) (a_reached : List (Bool)) : (List (Bool) × List (Int)) → Option (LR (List (Bool) × List (Int)) (List (Int))) :=
  fun (s_ : (List (Bool) × List (Int))) => match s_ with | (l1, l2) => (bif (((l2.length : Int) : Int) == (0 : Int)) then ((Di l1).bind fun x17 => (some (.done x17))) else (Cj (A6 (Bg ((l2.length : Int) - (1 : Int))) l2.length) (Cj (0 ≤ (Bg ((l2.length : Int) - (1 : Int))) ∧ 0 + ((Bg ((l2.length : Int) - (1 : Int)))).toNat ≤ l2.length) (Option.bind (α := (List (Bool) × List (Int))) (Cj (A6 (l2.getD ((Bg ((l2.length : Int) - (1 : Int)))).toNat (0 : Int)) 64) (Cj (((a_reached.getD ((l2.getD ((Bg ((l2.length : Int) - (1 : Int)))).toNat (0 : Int))).toNat false) == true) = true → (A6 (l2.getD ((Bg ((l2.length : Int) - (1 : Int)))).toNat (0 : Int)) 64)) (bif (bif (a_reached.getD ((l2.getD ((Bg ((l2.length : Int) - (1 : Int)))).toNat (0 : Int))).toNat false) then (!(l1.getD ((l2.getD ((Bg ((l2.length : Int) - (1 : Int)))).toNat (0 : Int))).toNat false)) else false) then (Cj (A6 (l2.getD ((Bg ((l2.length : Int) - (1 : Int)))).toNat (0 : Int)) 64) (Cj (A6 (l2.getD ((Bg ((l2.length : Int) - (1 : Int)))).toNat (0 : Int)) a_pred.length) (Cj ((l2.take ((Bg ((l2.length : Int) - (1 : Int)))).toNat).length + (a_pred.getD ((l2.getD ((Bg ((l2.length : Int) - (1 : Int)))).toNat (0 : Int))).toNat []).length ≤ room) (some (((Dm 64 false l1 ((l2.getD ((Bg ((l2.length : Int) - (1 : Int)))).toNat (0 : Int))).toNat true), ((l2.take ((Bg ((l2.length : Int) - (1 : Int)))).toNat) ++ (a_pred.getD ((l2.getD ((Bg ((l2.length : Int) - (1 : Int)))).toNat (0 : Int))).toNat [])))))))) else (some ((l1, (l2.take ((Bg ((l2.length : Int) - (1 : Int)))).toNat))))))) (fun x27 => (match x27 with | (l20, l21) => (some (.next (l20, l21)))))))))
def Wq := (fun n_ => Ca n_ [5, 9, 15])
def Q191 (l1 : List (Bool)) := (fun i => eB (l1.getD i false))
def Fp (a_pred : List (List (Int))) : AV := (AV.list 1 eLI64 [] a_pred .none)
def Ku (l2 : List (Int)) := (l2.getD ((Bg ((l2.length : Int) - (1 : Int)))).toNat (0 : Int))
def Sz (a_pred : List (List (Int))) (l2 : List (Int)) := (a_pred.getD ((Ku l2)).toNat [])
def Kx (x4 : List (Int)) := (x4.getD ((Bg ((x4.length : Int) - (1 : Int)))).toNat (0 : Int))
def Sy (a_pred : List (List (Int))) (x4 : List (Int)) := (a_pred.getD ((Kx x4)).toNat [])
def Q192 (x4 : List (Int)) := (fun i => Ac (x4.getD i (0 : Int)))
def Gr (a_reached : List (Bool)) := (fun i => eB (a_reached.getD i false))
def Py (a_reached : List (Bool)) (l2 : List (Int)) := (a_reached.getD ((Ku l2)).toNat false)
def Pz (a_reached : List (Bool)) (x4 : List (Int)) := (a_reached.getD ((Kx x4)).toNat false)
def Zd (a_begins : List (Int)) : AV := (AV.list 1 Ac (0 : Int) a_begins .none)
def Q186 (a_head : Int) := (Dm 64 false (List.replicate 64 false) (a_head).toNat true)
def Yq (a_head : Int) := (fun i => eB ((Q186 a_head).getD i false))
def Jp (l2 : List (Int)) := (l2.take ((Bg ((l2.length : Int) - (1 : Int)))).toNat)
def Q201 (l2 : List (Int)) := (fun i => Ac ((Jp l2).getD i (0 : Int)))
def Ji (x4 : List (Int)) := (x4.take ((Bg ((x4.length : Int) - (1 : Int)))).toNat)
def Q202 (x4 : List (Int)) := (fun i => Ac ((Ji x4).getD i (0 : Int)))
def Zx (l2 : List (Int)) := (0 + ((Bg ((l2.length : Int) - (1 : Int)))).toNat)
def X8 (x4 : List (Int)) := (0 + ((Bg ((x4.length : Int) - (1 : Int)))).toNat)
def Q200 (l1 : List (Bool)) (l2 : List (Int)) := (fun i => eB ((Dm 64 false l1 ((Ku l2)).toNat true).getD i false))
def Q199 (a_head : Int) (x4 : List (Int)) := (fun i => eB ((Dm 64 false (Q186 a_head) ((Kx x4)).toNat true).getD i false))
def Q194 (a_reached : List (Bool)) (l1 : List (Bool)) (l2 : List (Int)) : List (Nat × Own) := [(5, .arr 1 53 64 (Gr a_reached)), (9, .arr 1 53 64 (Q191 l1)), (15, .arr 1 3 l2.length (fun i => Ac (l2.getD i (0 : Int))))]
def Q193 (a_reached : List (Bool)) (a_head : Int) (x4 : List (Int)) : List (Nat × Own) := [(5, .arr 1 53 64 (Gr a_reached)), (9, .arr 1 53 64 (Yq a_head)), (15, .arr 1 3 x4.length (Q192 x4))]
def Hg (a_pred : List (List (Int))) (a_reached : List (Bool)) (a_head : Int) (a_begins : List (Int)) : Option (List (Int)) :=
  ((J7 (S := (List (Bool) × List (Int))) (X := List (Int)) (Cj (A6 a_head 64) ((Cx a_begins).bind fun x4 => (bif (((x4.length : Int) : Int) == (0 : Int)) then ((Di (Dm 64 false (List.replicate 64 false) (a_head).toNat true)).bind fun x5 => (some (.done x5))) else (Cj (A6 (Bg ((x4.length : Int) - (1 : Int))) x4.length) (Cj (0 ≤ (Bg ((x4.length : Int) - (1 : Int))) ∧ 0 + ((Bg ((x4.length : Int) - (1 : Int)))).toNat ≤ x4.length) (Option.bind (α := (List (Bool) × List (Int))) (Cj (A6 (x4.getD ((Bg ((x4.length : Int) - (1 : Int)))).toNat (0 : Int)) 64) (Cj (((a_reached.getD ((x4.getD ((Bg ((x4.length : Int) - (1 : Int)))).toNat (0 : Int))).toNat false) == true) = true → (A6 (x4.getD ((Bg ((x4.length : Int) - (1 : Int)))).toNat (0 : Int)) 64)) (bif (bif (a_reached.getD ((x4.getD ((Bg ((x4.length : Int) - (1 : Int)))).toNat (0 : Int))).toNat false) then (!((Dm 64 false (List.replicate 64 false) (a_head).toNat true).getD ((x4.getD ((Bg ((x4.length : Int) - (1 : Int)))).toNat (0 : Int))).toNat false)) else false) then (Cj (A6 (x4.getD ((Bg ((x4.length : Int) - (1 : Int)))).toNat (0 : Int)) 64) (Cj (A6 (x4.getD ((Bg ((x4.length : Int) - (1 : Int)))).toNat (0 : Int)) a_pred.length) (Cj ((x4.take ((Bg ((x4.length : Int) - (1 : Int)))).toNat).length + (a_pred.getD ((x4.getD ((Bg ((x4.length : Int) - (1 : Int)))).toNat (0 : Int))).toNat []).length ≤ room) (some (((Dm 64 false (Dm 64 false (List.replicate 64 false) (a_head).toNat true) ((x4.getD ((Bg ((x4.length : Int) - (1 : Int)))).toNat (0 : Int))).toNat true), ((x4.take ((Bg ((x4.length : Int) - (1 : Int)))).toNat) ++ (a_pred.getD ((x4.getD ((Bg ((x4.length : Int) - (1 : Int)))).toNat (0 : Int))).toNat [])))))))) else (some (((Dm 64 false (List.replicate 64 false) (a_head).toNat true), (x4.take ((Bg ((x4.length : Int) - (1 : Int)))).toNat))))))) (fun x15 => (match x15 with | (l8, l9) => (some (.next (l8, l9))))))))))) (Df a_pred a_reached)).bind (fun x29 => ((some x29))))
theorem Vl (a_pred : List (List (Int))) (a_reached : List (Bool)) (a_head : Int) (a_begins : List (Int)) (r : List (Int)) (h : Hg a_pred a_reached a_head a_begins = some r) : Spec Try.prog 31 [(AV.list 1 eLI64 [] a_pred .none), (.agg (Fe a_reached)), (.int .i64 a_head), (AV.list 1 Ac (0 : Int) a_begins .none)] [] (AV.list 1 Ac (0 : Int) r (.own 20000)) [(20000, .tok 1 3 r.length)] := by
  refine Ao (fn := Try.f31) Try.func31 rfl rfl (by kernel_rfl) (fun Γ hn hΓ => ?_); have hq : RgQ Try.prog Γ 49 [] := ⟨hn, mix, hΓ⟩; unfold Hg at h; refine B6 [] [(5, (.vpt 5 64 0 0)), (8, (AV.list 1 Ac (0 : Int) ([] : List Int) .exact))] ⟨[(0, (Fp a_pred)), (2, (.int .i64 a_head)), (3, (Zd a_begins)), (5, (.vpt 5 64 0 0))], [(5, .arr 1 53 64 (fun i_ => AV.eraseAll (fun n_ => Ca n_ [5]) ((fun i_ => (((Fe a_reached)).drop (i_ * 1)).take 1) i_)))], []⟩ [(AVle (.slice 0 0 (fun _ => []) .exact) (AV.list 1 Ac (0 : Int) ([] : List Int) .exact))] hq ⟨D2, trivial⟩ ?_; refine Af (Cm (st' := ⟨[(0, (Fp a_pred)), (2, (.int .i64 a_head)), (3, (Zd a_begins)), (5, (.vpt 5 64 0 0))], [(5, .arr 1 53 64 (Gr a_reached))], []⟩) (TmpsLe.refl _) (.arr (Bi rfl (fun k_ hk_ => (congrArg (AV.eraseAll (fun n_ => Ca n_ [5])) ((J4 (n := 64) (sz := 1) (f := (Gr a_reached)) (fun _ _ => rfl)) k_ hk_)).trans rfl)) .nil)) ?_; obtain ⟨x29, hx29, h⟩ := bind_some h; refine Ov (S := (List (Bool) × List (Int))) (X := List (Int)) (fun (s_ : (List (Bool) × List (Int))) => match s_ with | (l1, l2) => 0) (fun (s_ : (List (Bool) × List (Int))) => match s_ with | (l1, l2) => (⟨[(0, (Fp a_pred)), (5, (.vpt 5 64 0 0)), (9, (.vpt 9 64 0 0)), (10, (.vsl 15 l2.length))], (Q194 a_reached l1 l2), []⟩ : St)) _ _ (fun (r_ : List (Int)) (e : Exit) (st : St) => e = .ret ∧ Jx Try.prog Try.f31.results.toList [] (AV.list 1 Ac (0 : Int) r_ (.own 20000)) [(20000, .tok 1 3 r_.length)] e st) ?_ ?_ hx29 ?_
  · clear h hx29; intro y h; refine B6 [] [(9, (.vpt 9 64 0 0))] ⟨[(0, (Fp a_pred)), (2, (.int .i64 a_head)), (3, (Zd a_begins)), (5, (.vpt 5 64 0 0)), (9, (.vpt 9 64 0 0))], [(5, .arr 1 53 64 (Gr a_reached)), (9, .arr 1 53 64 (fun i_ => AV.eraseAll (fun n_ => Ca n_ [5, 9]) ((fun i => (((List.replicate 64 [(.bool false)]).flatten).drop (i * 1)).take 1) i_)))], []⟩ [] hq trivial ?_; refine Af (Cm (st' := ⟨[(0, (Fp a_pred)), (2, (.int .i64 a_head)), (3, (Zd a_begins)), (5, (.vpt 5 64 0 0)), (9, (.vpt 9 64 0 0))], [(5, .arr 1 53 64 (Gr a_reached)), (9, .arr 1 53 64 (fun i => eB ((List.replicate 64 false).getD i false)))], []⟩) (TmpsLe.refl _) (.same (.arr (H2 (e := eB) (d := false) (z := [(.bool false)]) rfl rfl rfl) .nil))) ?_; obtain ⟨hc3, h⟩ := Ab h; refine B6 [] [] ⟨[(0, (Fp a_pred)), (3, (Zd a_begins)), (5, (.vpt 5 64 0 0)), (9, (.vpt 9 64 0 0))], [(5, .arr 1 53 64 (Gr a_reached)), (9, .arr 1 53 64 (fun i_ => AV.eraseAll (fun n_ => Ca n_ [5, 9]) ((Fc (fun i => eB ((List.replicate 64 false).getD i false)) (a_head).toNat 0 [(.bool true)]) i_)))], []⟩ [(A6 a_head 64), (64 = 64)] hq ⟨hc3, rfl, trivial⟩ ?_; refine Af (Cm (st' := ⟨[(0, (Fp a_pred)), (3, (Zd a_begins)), (5, (.vpt 5 64 0 0)), (9, (.vpt 9 64 0 0))], [(5, .arr 1 53 64 (Gr a_reached)), (9, .arr 1 53 64 (Yq a_head))], []⟩) (TmpsLe.refl _) (.same (.arr (Bi rfl (fun k_ hk_ => (congrArg (AV.eraseAll (fun n_ => Ca n_ [5, 9])) ((E9 (fun _ _ => rfl) (Dv hc3) rfl) k_ hk_)).trans rfl)) .nil))) ?_; obtain ⟨x4, hx4, h⟩ := bind_some h; refine B6 [⟨[], [(20000, 15)], (.vsl 20000 x4.length), [(20000, .arr 1 3 x4.length (Q192 x4))], []⟩] [] ⟨[(0, (Fp a_pred)), (5, (.vpt 5 64 0 0)), (9, (.vpt 9 64 0 0)), (10, (.vsl 15 x4.length))], (Q193 a_reached a_head x4), []⟩ [(Spec Try.prog 42 [(Zd a_begins)] [] (.vsl 20000 x4.length) [(20000, .arr 1 3 x4.length (Q192 x4))])] hq ⟨(Ia a_begins x4 hx4), trivial⟩ ?_; refine Ae ?_; refine Pb ?_; refine Aa ?_; refine Ae ?_; refine Au ⟨[(0, (Fp a_pred)), (5, (.vpt 5 64 0 0)), (9, (.vpt 9 64 0 0)), (10, (.vsl 15 x4.length)), (18, (.bool (((x4.length : Int) : Int) == (0 : Int))))], (Q193 a_reached a_head x4), []⟩ hq ?_; refine Ak (((x4.length : Int) : Int) == (0 : Int)) (by kernel_rfl) (fun hb => ?_) (fun hb => ?_)
    · replace h := Aq hb h; clear hb; obtain ⟨x5, hx5, h⟩ := bind_some h; refine B6 [⟨[], [(20000, 20)], (AV.list 1 Ac (0 : Int) x5 (.own 20000)), [(20000, .tok 1 3 x5.length)], []⟩] [] ⟨[(8, (AV.list 1 Ac (0 : Int) x5 (.own 20)))], [(20, .tok 1 3 x5.length)], []⟩ [(64 = 64), (Spec Try.prog 46 [(.agg (Fe (Q186 a_head)))] [] (AV.list 1 Ac (0 : Int) x5 (.own 20000)) [(20000, .tok 1 3 x5.length)])] hq ⟨rfl, (Hl (Q186 a_head) x5 hx5), trivial⟩ ?_; refine Ar ?_; refine A0 ?_; obtain rfl := OI h; exact ⟨(by intro l hh; cases hh), rfl, ⟨.inl rfl, [(20, 20000)], by kernel_rfl⟩⟩
    · replace h := Aw hb h; clear hb; refine Aj ?_; refine Aa ?_; obtain ⟨hc6, h⟩ := Ab h; refine B6 [] [] ⟨[(0, (Fp a_pred)), (5, (.vpt 5 64 0 0)), (9, (.vpt 9 64 0 0)), (10, (.vsl 15 x4.length)), (11, (.int .i64 (Kx x4)))], (Q193 a_reached a_head x4), []⟩ [(A6 (Bg ((x4.length : Int) - (1 : Int))) x4.length), (x4.length = x4.length)] hq ⟨hc6, rfl, trivial⟩ ?_; obtain ⟨hc7, h⟩ := Ab h; refine B6 [] [] ⟨[(0, (Fp a_pred)), (5, (.vpt 5 64 0 0)), (9, (.vpt 9 64 0 0)), (10, (.vsub 15 x4.length 0 (X8 x4))), (11, (.int .i64 (Kx x4)))], (Q193 a_reached a_head x4), []⟩ [(0 ≤ (Bg ((x4.length : Int) - (1 : Int))) ∧ 0 + ((Bg ((x4.length : Int) - (1 : Int)))).toNat ≤ x4.length)] hq ⟨hc7, trivial⟩ ?_; refine Af (Le.trans (Le.trans (Oj (t := 10) (r := 15) (k := (X8 x4)) rfl rfl hc7.2 (by kernel_rfl) (.arr (fun _ => by kernel_rfl) (.arr (fun _ => by kernel_rfl) (.arr (fun _ => by kernel_rfl) .nil))) (by rw [hΓ]; rfl)) (B5 (st' := ⟨[(0, (Fp a_pred)), (5, (.vpt 5 64 0 0)), (9, (.vpt 9 64 0 0)), (10, (.vsl 15 (X8 x4))), (11, (.int .i64 (Kx x4)))], [(5, .arr 1 53 64 (Gr a_reached)), (9, .arr 1 53 64 (Yq a_head)), (15, .arr 1 3 (X8 x4) (Q192 x4))], []⟩) (by kernel_rfl))) (Le.trans (Cm (st' := ⟨[(0, (Fp a_pred)), (5, (.vpt 5 64 0 0)), (9, (.vpt 9 64 0 0)), (10, (.vsl 15 (X8 x4))), (11, (.int .i64 (Kx x4)))], [(5, .arr 1 53 64 (Gr a_reached)), (9, .arr 1 53 64 (Yq a_head)), (15, .arr 1 3 (X8 x4) (Q202 x4))], []⟩) (TmpsLe.refl _) (.same (.same (.arr (P5 (e := Ac) (d := (0 : Int))) .nil)))) (B5 (congrArg (fun k_ : Nat => (⟨[(0, (Fp a_pred)), (5, (.vpt 5 64 0 0)), (9, (.vpt 9 64 0 0)), (10, (.vsl 15 k_)), (11, (.int .i64 (Kx x4)))], [(5, .arr 1 53 64 (Gr a_reached)), (9, .arr 1 53 64 (Yq a_head)), (15, .arr 1 3 k_ (Q202 x4))], []⟩ : St)) (show (X8 x4) = (Ji x4).length from N3 hc7.2))))) ?_; refine Ae ?_; obtain ⟨x15, hx15, h⟩ := bind_some h; refine E6 (fun ((l8, l9) : (List (Bool) × List (Int))) (e : Exit) (st : St) => e = .normal ∧ Le Γ st (⟨[(0, (Fp a_pred)), (5, (.vpt 5 64 0 0)), (9, (.vpt 9 64 0 0)), (10, (.vsl 15 l9.length))], [(5, .arr 1 53 64 (Gr a_reached)), (9, .arr 1 53 64 (fun i => eB (l8.getD i false))), (15, .arr 1 3 l9.length (fun i => Ac (l9.getD i (0 : Int))))], []⟩ : St)) hx15 ?_ ?_
      · clear h hx15; intro y h; obtain ⟨hc10, h⟩ := Ab h; obtain ⟨hc11, h⟩ := Ab h; refine B6 [] [] ⟨[(0, (Fp a_pred)), (5, (.vpt 5 64 0 0)), (9, (.vpt 9 64 0 0)), (10, (.vsl 15 (Ji x4).length)), (11, (.int .i64 (Kx x4))), (40, (.bool (bif (Pz a_reached x4) then (!((Q186 a_head).getD ((Kx x4)).toNat false)) else false)))], [(5, .arr 1 53 64 (Gr a_reached)), (9, .arr 1 53 64 (Yq a_head)), (15, .arr 1 3 ((Ji x4).length) (Q202 x4))], []⟩ [(A6 (Kx x4) 64), (64 = 64), (((Pz a_reached x4) == true) = true → ((Pz a_reached x4) == true) = true), (((Pz a_reached x4) == true) = true → (A6 (Kx x4) 64)), (((Pz a_reached x4) == true) = true → ((Pz a_reached x4) == true) = true), (((Pz a_reached x4) == true) = true → (64 = 64)), (((Pz a_reached x4) == true) = true → ((Pz a_reached x4) == true) = true), ((Pz a_reached x4) = true → ((Pz a_reached x4) == true) = true)] hq ⟨hc10, rfl, (fun hg => hg), (fun hg => (hc11 hg)), (fun hg => hg), (fun hg => rfl), (fun hg => hg), gT, trivial⟩ ?_; refine Ak (bif (Pz a_reached x4) then (!((Q186 a_head).getD ((Kx x4)).toNat false)) else false) (by kernel_rfl) (fun hb => ?_) (fun hb => ?_)
        · replace h := Aq hb h; clear hb; obtain ⟨hc12, h⟩ := Ab h; refine B6 [] [] ⟨[(0, (Fp a_pred)), (5, (.vpt 5 64 0 0)), (9, (.vpt 9 64 0 0)), (10, (.vsl 15 (Ji x4).length)), (11, (.int .i64 (Kx x4)))], [(5, .arr 1 53 64 (Gr a_reached)), (9, .arr 1 53 64 (fun i_ => AV.eraseAll Wq ((Fc (Yq a_head) ((Kx x4)).toNat 0 [(.bool true)]) i_))), (15, .arr 1 3 ((Ji x4).length) (Q202 x4))], []⟩ [(A6 (Kx x4) 64), (64 = 64)] hq ⟨hc12, rfl, trivial⟩ ?_; refine Af (Cm (st' := ⟨[(0, (Fp a_pred)), (5, (.vpt 5 64 0 0)), (9, (.vpt 9 64 0 0)), (10, (.vsl 15 (Ji x4).length)), (11, (.int .i64 (Kx x4)))], [(5, .arr 1 53 64 (Gr a_reached)), (9, .arr 1 53 64 (Q199 a_head x4)), (15, .arr 1 3 ((Ji x4).length) (Q202 x4))], []⟩) (TmpsLe.refl _) (.same (.arr (Bi rfl (fun k_ hk_ => (congrArg (AV.eraseAll Wq) ((E9 (fun _ _ => rfl) (Dv hc12) rfl) k_ hk_)).trans rfl)) (.same .nil)))) ?_; obtain ⟨hc13, h⟩ := Ab h; obtain ⟨hc14, h⟩ := Ab h; refine rg [] [] ⟨[(0, (Fp a_pred)), (5, (.vpt 5 64 0 0)), (9, (.vpt 9 64 0 0)), (10, (.vsl 15 ((Ji x4).length + (Sy a_pred x4).length)))], [(5, .arr 1 53 64 (Gr a_reached)), (9, .arr 1 53 64 (Q199 a_head x4)), (15, .arr 1 3 ((Ji x4).length + (Sy a_pred x4).length) (fun i_ => AV.eraseAll Wq ((Ez ((Ji x4).length) (Q202 x4) (fun i => Ac ((Sy a_pred x4).getD i (0 : Int)))) i_)))], []⟩ [(A6 (Kx x4) a_pred.length), ((Ji x4).length = (Ji x4).length), ((Ji x4).length + (Sy a_pred x4).length ≤ room)] hq ⟨hc13, rfl, hc14, trivial⟩ ?_; obtain rfl := OI h; exact ⟨rfl, Le.trans (Le.trans (Cm (st' := ⟨[(0, (Fp a_pred)), (5, (.vpt 5 64 0 0)), (9, (.vpt 9 64 0 0)), (10, (.vsl 15 ((Ji x4).length + (Sy a_pred x4).length)))], [(5, .arr 1 53 64 (Gr a_reached)), (9, .arr 1 53 64 (Q199 a_head x4)), (15, .arr 1 3 ((Ji x4).length + (Sy a_pred x4).length) (fun i => Ac (((Ji x4) ++ (Sy a_pred x4)).getD i (0 : Int))))], []⟩) (TmpsLe.refl _) (.same (.same (.arr (Bi (D5 _ _) (fun k_ hk_ => (congrArg (AV.eraseAll Wq) ((Jj (fun _ _ => rfl) (fun _ _ => rfl)) k_ hk_)).trans rfl)) .nil)))) (B5 (congrArg (fun k_ : Nat => (⟨[(0, (Fp a_pred)), (5, (.vpt 5 64 0 0)), (9, (.vpt 9 64 0 0)), (10, (.vsl 15 k_))], [(5, .arr 1 53 64 (Gr a_reached)), (9, .arr 1 53 64 (Q199 a_head x4)), (15, .arr 1 3 k_ (fun i => Ac (((Ji x4) ++ (Sy a_pred x4)).getD i (0 : Int))))], []⟩ : St)) (show ((Ji x4).length + (Sy a_pred x4).length) = ((Ji x4) ++ (Sy a_pred x4)).length from (D5 _ _))))) (Le.refl _ _)⟩
        · replace h := Aw hb h; clear hb; refine Aj ?_; obtain rfl := OI h; exact ⟨rfl, Fx [0, 5, 9, 10] [5, 9, 15] hq⟩
      · clear hx15; rcases x15 with ⟨l8, l9⟩; rintro e st' ⟨rfl, hl16⟩; refine Aa ?_; refine Af hl16 ?_; refine Hj ?_; obtain rfl := OI h; exact ⟨rfl, rfl, Le.refl _ _⟩
  · clear h hx29; rintro ⟨l1, l2⟩ y rest hf h; obtain rfl := OI hf; clear hf; unfold Df at h; refine Ae ?_; refine Aj ?_; refine Aa ?_; refine Ae ?_; refine Au ⟨[(0, (Fp a_pred)), (5, (.vpt 5 64 0 0)), (9, (.vpt 9 64 0 0)), (10, (.vsl 15 l2.length)), (18, (.bool (((l2.length : Int) : Int) == (0 : Int))))], (Q194 a_reached l1 l2), []⟩ hq ?_; refine Ak (((l2.length : Int) : Int) == (0 : Int)) (by kernel_rfl) (fun hb => ?_) (fun hb => ?_)
    · replace h := Aq hb h; clear hb; obtain ⟨x17, hx17, h⟩ := bind_some h; refine B6 [⟨[], [(20000, 20)], (AV.list 1 Ac (0 : Int) x17 (.own 20000)), [(20000, .tok 1 3 x17.length)], []⟩] [] ⟨[(8, (AV.list 1 Ac (0 : Int) x17 (.own 20)))], [(20, .tok 1 3 x17.length)], []⟩ [(64 = 64), (Spec Try.prog 46 [(.agg (Fe l1))] [] (AV.list 1 Ac (0 : Int) x17 (.own 20000)) [(20000, .tok 1 3 x17.length)])] hq ⟨rfl, (Hl l1 x17 hx17), trivial⟩ ?_; refine Ar ?_; refine A0 ?_; obtain rfl := OI h; exact ⟨(by intro l hh; cases hh), rfl, ⟨.inl rfl, [(20, 20000)], by kernel_rfl⟩⟩
    · replace h := Aw hb h; clear hb; refine Aj ?_; refine Aa ?_; obtain ⟨hc18, h⟩ := Ab h; refine B6 [] [] ⟨[(0, (Fp a_pred)), (5, (.vpt 5 64 0 0)), (9, (.vpt 9 64 0 0)), (10, (.vsl 15 l2.length)), (11, (.int .i64 (Ku l2)))], (Q194 a_reached l1 l2), []⟩ [(A6 (Bg ((l2.length : Int) - (1 : Int))) l2.length), (l2.length = l2.length)] hq ⟨hc18, rfl, trivial⟩ ?_; obtain ⟨hc19, h⟩ := Ab h; refine B6 [] [] ⟨[(0, (Fp a_pred)), (5, (.vpt 5 64 0 0)), (9, (.vpt 9 64 0 0)), (10, (.vsub 15 l2.length 0 (Zx l2))), (11, (.int .i64 (Ku l2)))], (Q194 a_reached l1 l2), []⟩ [(0 ≤ (Bg ((l2.length : Int) - (1 : Int))) ∧ 0 + ((Bg ((l2.length : Int) - (1 : Int)))).toNat ≤ l2.length)] hq ⟨hc19, trivial⟩ ?_; refine Af (Le.trans (Le.trans (Oj (t := 10) (r := 15) (k := (Zx l2)) rfl rfl hc19.2 (by kernel_rfl) (.arr (fun _ => by kernel_rfl) (.arr (fun _ => by kernel_rfl) (.arr (fun _ => by kernel_rfl) .nil))) (by rw [hΓ]; rfl)) (B5 (st' := ⟨[(0, (Fp a_pred)), (5, (.vpt 5 64 0 0)), (9, (.vpt 9 64 0 0)), (10, (.vsl 15 (Zx l2))), (11, (.int .i64 (Ku l2)))], [(5, .arr 1 53 64 (Gr a_reached)), (9, .arr 1 53 64 (Q191 l1)), (15, .arr 1 3 (Zx l2) (fun i => Ac (l2.getD i (0 : Int))))], []⟩) (by kernel_rfl))) (Le.trans (Cm (st' := ⟨[(0, (Fp a_pred)), (5, (.vpt 5 64 0 0)), (9, (.vpt 9 64 0 0)), (10, (.vsl 15 (Zx l2))), (11, (.int .i64 (Ku l2)))], [(5, .arr 1 53 64 (Gr a_reached)), (9, .arr 1 53 64 (Q191 l1)), (15, .arr 1 3 (Zx l2) (Q201 l2))], []⟩) (TmpsLe.refl _) (.same (.same (.arr (P5 (e := Ac) (d := (0 : Int))) .nil)))) (B5 (congrArg (fun k_ : Nat => (⟨[(0, (Fp a_pred)), (5, (.vpt 5 64 0 0)), (9, (.vpt 9 64 0 0)), (10, (.vsl 15 k_)), (11, (.int .i64 (Ku l2)))], [(5, .arr 1 53 64 (Gr a_reached)), (9, .arr 1 53 64 (Q191 l1)), (15, .arr 1 3 k_ (Q201 l2))], []⟩ : St)) (show (Zx l2) = (Jp l2).length from N3 hc19.2))))) ?_; refine Ae ?_; obtain ⟨x27, hx27, h⟩ := bind_some h; refine E6 (fun ((l20, l21) : (List (Bool) × List (Int))) (e : Exit) (st : St) => e = .normal ∧ Le Γ st (⟨[(0, (Fp a_pred)), (5, (.vpt 5 64 0 0)), (9, (.vpt 9 64 0 0)), (10, (.vsl 15 l21.length))], [(5, .arr 1 53 64 (Gr a_reached)), (9, .arr 1 53 64 (fun i => eB (l20.getD i false))), (15, .arr 1 3 l21.length (fun i => Ac (l21.getD i (0 : Int))))], []⟩ : St)) hx27 ?_ ?_
      · clear h hx27; intro y h; obtain ⟨hc22, h⟩ := Ab h; obtain ⟨hc23, h⟩ := Ab h; refine B6 [] [] ⟨[(0, (Fp a_pred)), (5, (.vpt 5 64 0 0)), (9, (.vpt 9 64 0 0)), (10, (.vsl 15 (Jp l2).length)), (11, (.int .i64 (Ku l2))), (40, (.bool (bif (Py a_reached l2) then (!(l1.getD ((Ku l2)).toNat false)) else false)))], [(5, .arr 1 53 64 (Gr a_reached)), (9, .arr 1 53 64 (Q191 l1)), (15, .arr 1 3 ((Jp l2).length) (Q201 l2))], []⟩ [(A6 (Ku l2) 64), (64 = 64), (((Py a_reached l2) == true) = true → ((Py a_reached l2) == true) = true), (((Py a_reached l2) == true) = true → (A6 (Ku l2) 64)), (((Py a_reached l2) == true) = true → ((Py a_reached l2) == true) = true), (((Py a_reached l2) == true) = true → (64 = 64)), (((Py a_reached l2) == true) = true → ((Py a_reached l2) == true) = true), ((Py a_reached l2) = true → ((Py a_reached l2) == true) = true)] hq ⟨hc22, rfl, (fun hg => hg), (fun hg => (hc23 hg)), (fun hg => hg), (fun hg => rfl), (fun hg => hg), gT, trivial⟩ ?_; refine Ak (bif (Py a_reached l2) then (!(l1.getD ((Ku l2)).toNat false)) else false) (by kernel_rfl) (fun hb => ?_) (fun hb => ?_)
        · replace h := Aq hb h; clear hb; obtain ⟨hc24, h⟩ := Ab h; refine B6 [] [] ⟨[(0, (Fp a_pred)), (5, (.vpt 5 64 0 0)), (9, (.vpt 9 64 0 0)), (10, (.vsl 15 (Jp l2).length)), (11, (.int .i64 (Ku l2)))], [(5, .arr 1 53 64 (Gr a_reached)), (9, .arr 1 53 64 (fun i_ => AV.eraseAll Wq ((Fc (Q191 l1) ((Ku l2)).toNat 0 [(.bool true)]) i_))), (15, .arr 1 3 ((Jp l2).length) (Q201 l2))], []⟩ [(A6 (Ku l2) 64), (64 = 64)] hq ⟨hc24, rfl, trivial⟩ ?_; refine Af (Cm (st' := ⟨[(0, (Fp a_pred)), (5, (.vpt 5 64 0 0)), (9, (.vpt 9 64 0 0)), (10, (.vsl 15 (Jp l2).length)), (11, (.int .i64 (Ku l2)))], [(5, .arr 1 53 64 (Gr a_reached)), (9, .arr 1 53 64 (Q200 l1 l2)), (15, .arr 1 3 ((Jp l2).length) (Q201 l2))], []⟩) (TmpsLe.refl _) (.same (.arr (Bi rfl (fun k_ hk_ => (congrArg (AV.eraseAll Wq) ((E9 (fun _ _ => rfl) (Dv hc24) rfl) k_ hk_)).trans rfl)) (.same .nil)))) ?_; obtain ⟨hc25, h⟩ := Ab h; obtain ⟨hc26, h⟩ := Ab h; refine rg [] [] ⟨[(0, (Fp a_pred)), (5, (.vpt 5 64 0 0)), (9, (.vpt 9 64 0 0)), (10, (.vsl 15 ((Jp l2).length + (Sz a_pred l2).length)))], [(5, .arr 1 53 64 (Gr a_reached)), (9, .arr 1 53 64 (Q200 l1 l2)), (15, .arr 1 3 ((Jp l2).length + (Sz a_pred l2).length) (fun i_ => AV.eraseAll Wq ((Ez ((Jp l2).length) (Q201 l2) (fun i => Ac ((Sz a_pred l2).getD i (0 : Int)))) i_)))], []⟩ [(A6 (Ku l2) a_pred.length), ((Jp l2).length = (Jp l2).length), ((Jp l2).length + (Sz a_pred l2).length ≤ room)] hq ⟨hc25, rfl, hc26, trivial⟩ ?_; obtain rfl := OI h; exact ⟨rfl, Le.trans (Le.trans (Cm (st' := ⟨[(0, (Fp a_pred)), (5, (.vpt 5 64 0 0)), (9, (.vpt 9 64 0 0)), (10, (.vsl 15 ((Jp l2).length + (Sz a_pred l2).length)))], [(5, .arr 1 53 64 (Gr a_reached)), (9, .arr 1 53 64 (Q200 l1 l2)), (15, .arr 1 3 ((Jp l2).length + (Sz a_pred l2).length) (fun i => Ac (((Jp l2) ++ (Sz a_pred l2)).getD i (0 : Int))))], []⟩) (TmpsLe.refl _) (.same (.same (.arr (Bi (D5 _ _) (fun k_ hk_ => (congrArg (AV.eraseAll Wq) ((Jj (fun _ _ => rfl) (fun _ _ => rfl)) k_ hk_)).trans rfl)) .nil)))) (B5 (congrArg (fun k_ : Nat => (⟨[(0, (Fp a_pred)), (5, (.vpt 5 64 0 0)), (9, (.vpt 9 64 0 0)), (10, (.vsl 15 k_))], [(5, .arr 1 53 64 (Gr a_reached)), (9, .arr 1 53 64 (Q200 l1 l2)), (15, .arr 1 3 k_ (fun i => Ac (((Jp l2) ++ (Sz a_pred l2)).getD i (0 : Int))))], []⟩ : St)) (show ((Jp l2).length + (Sz a_pred l2).length) = ((Jp l2) ++ (Sz a_pred l2)).length from (D5 _ _))))) (Le.refl _ _)⟩
        · replace h := Aw hb h; clear hb; refine Aj ?_; obtain rfl := OI h; exact ⟨rfl, Fx [0, 5, 9, 10] [5, 9, 15] hq⟩
      · clear hx27; rcases x27 with ⟨l20, l21⟩; rintro e st' ⟨rfl, hl28⟩; refine Aa ?_; refine Af hl28 ?_; refine Hj ?_; obtain rfl := OI h; exact ⟨rfl, rfl, Le.refl _ _⟩
  · clear hx29; rintro e st' ⟨rfl, hk⟩; obtain rfl := OI h; exact hk
def D8 (x1 : List ((Int × Int))) : (Int × List (List (Int))) → Option (LR (Int × List (List (Int))) (List (List (Int)))) :=
  fun ((i2, l3) : (Int × List (List (Int)))) => (bif (decide ((i2 : Int) < (x1.length : Int))) then (Cj (A6 i2 x1.length) (Cj (A6 (x1.getD (i2).toNat ((0 : Int), (0 : Int))).2 64) (Cj (A6 (x1.getD (i2).toNat ((0 : Int), (0 : Int))).2 64) (Cj (((E7 64 [] l3).getD ((x1.getD (i2).toNat ((0 : Int), (0 : Int))).2).toNat []).length + ([(x1.getD (i2).toNat ((0 : Int), (0 : Int))).1] : List (Int)).length ≤ room) (Cj (A6 (x1.getD (i2).toNat ((0 : Int), (0 : Int))).2 64) (some (.next ((Bg (i2 + (1 : Int))), ((E7 64 [] l3).set ((x1.getD (i2).toNat ((0 : Int), (0 : Int))).2).toNat (((E7 64 [] l3).getD ((x1.getD (i2).toNat ((0 : Int), (0 : Int))).2).toNat []) ++ ([(x1.getD (i2).toNat ((0 : Int), (0 : Int))).1] : List (Int)))))))))))) else (some (.done l3)))
def Cc (a_g : Ap) (l4 : List (List (Int))) (x13 : List (Bool)) : (List (A1) × Int) → Option (LR (List (A1) × Int) (List (A1))) :=
  fun ((l14, i15) : (List (A1) × Int)) => (bif (decide ((i15 : Int) < (64 : Int))) then (Option.bind (α := List (A1)) (Cj (A6 i15 64) (bif (decide (((0 : Int) : Int) < ((l4.getD (i15).toNat []).length : Int))) then ((Hg a_g.Pred x13 i15 (l4.getD (i15).toNat [])).bind fun x19 => (Cj (l14.length + ([(⟨i15, x19⟩ : A1)] : List (A1)).length ≤ room) (some ((l14 ++ ([(⟨i15, x19⟩ : A1)] : List (A1))))))) else (some (l14)))) (fun x21 => ((some (.next (x21, (Bg (i15 + (1 : Int))))))))) else (some (.done l14)))
def Mh := (default : A1)
def P3 (x10 : List (List (Int))) : AV := (.agg (W1 x10))
def Us (x13 : List (Bool)) := (fun i => eB (x13.getD i false))
def P4 (i15 : Int) (x19 : List (Int)) := ([(⟨i15, x19⟩ : A1)] : List (A1))
def Hh (x1 : List ((Int × Int))) (i2 : Int) := (x1.getD (i2).toNat ((0 : Int), (0 : Int)))
def Sn (l3 : List (List (Int))) (x1 : List ((Int × Int))) (i2 : Int) := ((E7 64 [] l3).getD ((Hh x1 i2).2).toNat [])
def Q211 := (E7 64 [] (List.replicate 64 ([] : List (Int))))
def Q214 (l14 : List (A1)) : AV := (AV.list 2 Dq Mh l14 (.own 5009))
def Q219 (x1 : List ((Int × Int))) : AV := (AV.list 2 Ce ((0 : Int), (0 : Int)) x1 (.own 13))
def Q213 (l3 : List (List (Int))) := (Cr 1 Ac (0 : Int) (E7 64 [] l3) (Tag.fam 70003))
def Q215 (x10 : List (List (Int))) := (Cr 1 Ac (0 : Int) (E7 64 [] x10) (Tag.fam 70003))
def Q212 (x10 : List (List (Int))) (i15 : Int) : AV := (AV.list 1 Ac (0 : Int) (x10.getD (i15).toNat []) .none)
def Zm (l3 : List (List (Int))) (x1 : List ((Int × Int))) (i2 : Int) := ((Sn l3 x1 i2) ++ ([(Hh x1 i2).1] : List (Int)))
def Q223 (l3 : List (List (Int))) (x1 : List ((Int × Int))) (i2 : Int) := ((E7 64 [] l3).set ((Hh x1 i2).2).toNat (Zm l3 x1 i2))
def Q210 : AV := (AV.list 2 Dq Mh ([] : List A1) .exact)
def Il (a_g : Ap) : List AV := [(AV.list 1 eLI64 [] a_g.Succ .none), (AV.list 1 eLI64 [] a_g.Pred .none)]
def Q220 (a_g : Ap) (l3 : List (List (Int))) (x1 : List ((Int × Int))) : List (Nat × Own) := [(1, .row 26 (Il a_g)), (3, .arr 1 51 64 (Q213 l3)), (13, .tok 2 45 x1.length)]
def Q218 (a_g : Ap) (x13 : List (Bool)) (l14 : List (A1)) : List (Nat × Own) := [(1, .row 26 (Il a_g)), (8, .arr 1 53 64 (Us x13)), (5009, .tok 2 38 l14.length)]
def Q207 (x1 : List ((Int × Int))) (i2 : Int) : List (Nat × AV) := [(1, (.ptr 1 0)), (3, (.vpt 3 64 0 0)), (13, (Q219 x1)), (14, (.int .i64 (x1.length : Int))), (15, (.int .i64 i2))]
def Q224 (x1 : List ((Int × Int))) (i2 : Int) : List (Nat × AV) := [(1, (.ptr 1 0)), (3, (.vpt 3 64 0 0)), (6, (.int .i64 (Hh x1 i2).1)), (7, (.int .i64 (Hh x1 i2).2)), (13, (Q219 x1)), (14, (.int .i64 (x1.length : Int))), (15, (.int .i64 i2))]
def Fg (a_g : Ap) : Option (List (A1)) :=
  ((Dw a_g).bind fun x1 => ((At (S := (Int × List (List (Int)))) (X := List (List (Int))) (D8 x1) ((0 : Int), (List.replicate 64 ([] : List (Int))))).bind (fun x10 => (((Co a_g (0 : Int)).bind fun x12 => ((Fa x12).bind fun x13 => ((At (S := (List (A1) × Int)) (X := List (A1)) (Cc a_g x10 x13) (([] : List A1), (0 : Int))).bind (fun x23 => ((some x23))))))))))
theorem Lw (a_g : Ap) (r : List (A1)) (h : Fg a_g = some r) : Spec Try.prog 12 [(.agg (B1 a_g))] [] (AV.list 2 Dq (default : A1) r (.own 20000)) [(20000, .tok 2 38 r.length)] := by
  refine Ao (fn := Try.f12) Try.func12 rfl rfl (by kernel_rfl) (fun Γ hn hΓ => ?_); have hq : RgQ Try.prog Γ 56 [] := ⟨hn, mix, hΓ⟩; unfold Fg at h; refine B6 [] [(2, Q210)] ⟨[(1, (.ptr 1 0))], [(1, .row 26 (Il a_g))], []⟩ [(AVle (.slice 0 0 (fun _ => []) .exact) Q210)] hq ⟨D2, trivial⟩ ?_; refine B6 [] [(3, (.vpt 3 64 0 0))] ⟨[(1, (.ptr 1 0)), (3, (.vpt 3 64 0 0))], [(1, .row 26 (Il a_g)), (3, .arr 1 51 64 (fun i_ => AV.eraseAll (fun n_ => Ca n_ [1, 3]) ((fun i => (((List.replicate 64 [(.slice 0 0 (fun _ => []) .exact)]).flatten).drop (i * 1)).take 1) i_)))], []⟩ [] hq trivial ?_; refine Af (Le.trans (Cm (st' := ⟨[(1, (.ptr 1 0)), (3, (.vpt 3 64 0 0))], [(1, .row 26 (Il a_g)), (3, .arr 1 51 64 (Cr 1 Ac (0 : Int) Q211 (fun _ => .exact)))], []⟩) (TmpsLe.refl _) (.same (.arr Ul .nil))) (Le.trans (R5 (r := 3) (b := 70003) Ac (0 : Int) Q211 3 rfl rfl padN_len.symm (fun h_ => absurd h_ (by decide))) (B5 (st' := ⟨[(1, (.ptr 1 0)), (3, (.vpt 3 64 0 0))], [(1, .row 26 (Il a_g)), (3, .arr 1 51 64 (Cr 1 Ac (0 : Int) Q211 (Tag.fam 70003)))], [(70003, ⟨1, 3, Cw Q211⟩)]⟩) (by kernel_rfl)))) ?_; refine Ae ?_; obtain ⟨x1, hx1, h⟩ := bind_some h; refine B6 [⟨[], [(20000, 13)], (AV.list 2 Ce ((0 : Int), (0 : Int)) x1 (.own 20000)), [(20000, .tok 2 45 x1.length)], []⟩] [] ⟨[(1, (.ptr 1 0)), (3, (.vpt 3 64 0 0)), (13, (Q219 x1)), (14, (.int .i64 (x1.length : Int))), (15, (.int .i64 (0 : Int)))], [(1, .row 26 (Il a_g)), (3, .arr 1 51 64 (Cr 1 Ac (0 : Int) Q211 (Tag.fam 70003))), (13, .tok 2 45 x1.length)], [(70003, ⟨1, 3, Cw Q211⟩)]⟩ [(Spec Try.prog 18 [(.agg (B1 a_g))] [] (AV.list 2 Ce ((0 : Int), (0 : Int)) x1 (.own 20000)) [(20000, .tok 2 45 x1.length)])] hq ⟨(Hb a_g x1 hx1), trivial⟩ ?_; refine Ah ?_; refine Af (st' := (fun ((i2, l3) : (Int × List (List (Int)))) => (⟨(Q207 x1 i2), (Q220 a_g l3 x1), [(70003, ⟨1, 3, Cw (E7 64 [] l3)⟩)]⟩ : St)) ((0 : Int), (List.replicate 64 ([] : List (Int))))) (Le.refl _ _) ?_; obtain ⟨x10, hx10, h⟩ := bind_some h; refine Bc (fun ((i2, l3) : (Int × List (List (Int)))) => (⟨(Q207 x1 i2), (Q220 a_g l3 x1), [(70003, ⟨1, 3, Cw (E7 64 [] l3)⟩)]⟩ : St)) _ (fun (l4 : List (List (Int))) (e : Exit) (st : St) => e = (.exit 0) ∧ Le Γ st (⟨[(1, (.ptr 1 0)), (3, (.vpt 3 64 0 0))], [(1, .row 26 (Il a_g)), (3, .arr 1 51 64 (Cr 1 Ac (0 : Int) (E7 64 [] l4) (Tag.fam 70003)))], [(70003, ⟨1, 3, Cw (E7 64 [] l4)⟩)]⟩ : St)) ?_ hx10 ?_
  · rintro ⟨i2, l3⟩ y h; unfold D8 at h; refine Au ⟨[(1, (.ptr 1 0)), (3, (.vpt 3 64 0 0)), (13, (Q219 x1)), (14, (.int .i64 (x1.length : Int))), (15, (.int .i64 i2)), (16, (.bool (decide ((i2 : Int) < (x1.length : Int)))))], (Q220 a_g l3 x1), [(70003, ⟨1, 3, Cw (E7 64 [] l3)⟩)]⟩ hq ?_; refine Ae ?_; refine Ak (decide ((i2 : Int) < (x1.length : Int))) (by kernel_rfl) (fun hb => ?_) (fun hb => ?_)
    · replace h := Aq hb h; clear hb; refine Aj ?_; refine Aa ?_; refine Ae ?_; refine Ah ?_; obtain ⟨hc5, h⟩ := Ab h; refine B6 [] [] ⟨[(1, (.ptr 1 0)), (3, (.vpt 3 64 0 0)), (5, (.ptr 5 0)), (13, (Q219 x1)), (14, (.int .i64 (x1.length : Int))), (15, (.int .i64 i2))], [(1, .row 26 (Il a_g)), (3, .arr 1 51 64 (Q213 l3)), (5, .row 45 [(.int .i64 (Hh x1 i2).1), (.int .i64 (Hh x1 i2).2)]), (13, .tok 2 45 x1.length)], [(70003, ⟨1, 3, Cw (E7 64 [] l3)⟩)]⟩ [(A6 i2 x1.length)] hq ⟨hc5, trivial⟩ ?_; refine B6 [] [] ⟨(Q224 x1 i2), (Q220 a_g l3 x1), [(70003, ⟨1, 3, Cw (E7 64 [] l3)⟩)]⟩ [(A6 (0 : Int) 2), (A6 (1 : Int) 2)] hq ⟨(by decide), (by decide), trivial⟩ ?_; obtain ⟨hc6, h⟩ := Ab h; obtain ⟨hc7, h⟩ := Ab h; obtain ⟨hc8, h⟩ := Ab h; obtain ⟨hc9, h⟩ := Ab h; refine Af (Le.trans (Uj (r := 3) (b := 70003) (k := 60003) Ac (0 : Int) (E7 64 [] l3) ((Hh x1 i2).2).toNat 3 rfl rfl rfl padN_len.symm (Vg (Dv hc6)) (by kernel_rfl) (.row (by kernel_rfl) (.here (.tok .nil)))) (B5 (st' := ⟨(Q224 x1 i2), [(1, .row 26 (Il a_g)), (3, .arr 1 51 64 (Cr 1 Ac (0 : Int) (E7 64 [] l3) (Db 70003 ((Hh x1 i2).2).toNat 60003))), (13, .tok 2 45 x1.length), (60003, .tok 1 3 ((Sn l3 x1 i2).length))], [(70003, ⟨1, 3, Jk (E7 64 [] l3) ((Hh x1 i2).2).toNat⟩)]⟩) (by kernel_rfl))) ?_; refine rg [] [(26, (AV.list 1 Ac (0 : Int) (Sn l3 x1 i2) (.own 60003))), (28, (AV.list 1 Ac (0 : Int) ([(Hh x1 i2).1] : List (Int)) .exact)), (29, (AV.list 1 Ac (0 : Int) (Zm l3 x1 i2) (.own 60003)))] ⟨(Q207 x1 i2), [(1, .row 26 (Il a_g)), (3, .arr 1 51 64 (fun i_ => AV.eraseAll (fun n_ => Ca n_ [1, 3, 13, 60003, 70003]) ((Fc (Cr 1 Ac (0 : Int) (E7 64 [] l3) (Db 70003 ((Hh x1 i2).2).toNat 60003)) ((Hh x1 i2).2).toNat 0 [(AV.list 1 Ac (0 : Int) (Zm l3 x1 i2) (.own 60003))]) i_))), (13, .tok 2 45 x1.length), (60003, .tok 1 3 ((Zm l3 x1 i2).length))], [(70003, ⟨1, 3, Jk (E7 64 [] l3) ((Hh x1 i2).2).toNat⟩)]⟩ [(A6 (Hh x1 i2).2 64), (64 = 64), (AVle (((Cr 1 Ac (0 : Int) (E7 64 [] l3) (Db 70003 ((Hh x1 i2).2).toNat 60003)) ((Hh x1 i2).2).toNat).getD 0 .any) (AV.list 1 Ac (0 : Int) (Sn l3 x1 i2) (.own 60003))), (AVle (.slice 1 1 (fun i => ([[(.int .i64 (Hh x1 i2).1)]] : List (List AV)).getD i []) .exact) (AV.list 1 Ac (0 : Int) ([(Hh x1 i2).1] : List (Int)) .exact)), ((Sn l3 x1 i2).length = (Sn l3 x1 i2).length), ((Sn l3 x1 i2).length + ([(Hh x1 i2).1] : List (Int)).length ≤ room), (AVle (.slice 1 ((Sn l3 x1 i2).length + ([(Hh x1 i2).1] : List (Int)).length) (Ez (Sn l3 x1 i2).length (fun i => Ac ((Sn l3 x1 i2).getD i (0 : Int))) (fun i => Ac (([(Hh x1 i2).1] : List (Int)).getD i (0 : Int)))) (.own 60003)) (AV.list 1 Ac (0 : Int) (Zm l3 x1 i2) (.own 60003))), ((Sn l3 x1 i2).length + ([(Hh x1 i2).1] : List (Int)).length = (Zm l3 x1 i2).length), (A6 (Hh x1 i2).2 64), (64 = 64)] hq ⟨hc7, rfl, Oz, (Fj rfl (fun i hi => E2 (e := Ac) (d := (0 : Int)) ([(Hh x1 i2).1] : List (Int)) i hi)), rfl, hc8, M0, (D5 _ _), hc9, rfl, trivial⟩ ?_; refine Am ?_; refine Aa ?_; refine Af (Le.trans (Le.trans (Yv (r := 3) (b := 70003) (k := 60003) Ac (0 : Int) (E7 64 [] l3) ((Hh x1 i2).2).toNat (Zm l3 x1 i2) 3 rfl (Qh (Vg (Dv hc6)) rfl rfl) rfl rfl rfl padN_len.symm (Vg (Dv hc6)) (by kernel_rfl) (.row (by kernel_rfl) (.here (.tok (.tok .nil)))) (by rw [hΓ]; rfl)) (B5 (st' := ⟨(Q207 x1 i2), [(1, .row 26 (Il a_g)), (3, .arr 1 51 64 (Cr 1 Ac (0 : Int) (Q223 l3 x1 i2) (Tag.fam 70003))), (13, .tok 2 45 x1.length)], [(70003, ⟨1, 3, Cw (Q223 l3 x1 i2)⟩)]⟩) (by kernel_rfl))) (B5 (congrArg (fun k_ : List (List (Int)) => (⟨(Q207 x1 i2), [(1, .row 26 (Il a_g)), (3, .arr 1 51 64 (Cr 1 Ac (0 : Int) k_ (Tag.fam 70003))), (13, .tok 2 45 x1.length)], [(70003, ⟨1, 3, Cw k_⟩)]⟩ : St)) (show (Q223 l3 x1 i2) = (E7 64 [] (Q223 l3 x1 i2)) from Tm ((List.length_set ..).trans padN_len))))) ?_; refine Lr ⟨[(1, (.ptr 1 0)), (3, (.vpt 3 64 0 0)), (13, (Q219 x1)), (14, (.int .i64 (x1.length : Int))), (15, (.int .i64 (Bg (i2 + (1 : Int)))))], [(1, .row 26 (Il a_g)), (3, .arr 1 51 64 (Cr 1 Ac (0 : Int) (E7 64 [] (Q223 l3 x1 i2)) (Tag.fam 70003))), (13, .tok 2 45 x1.length)], [(70003, ⟨1, 3, Cw (E7 64 [] (Q223 l3 x1 i2))⟩)]⟩ hq ?_; obtain rfl := OI h; exact ⟨rfl, Le.refl _ _⟩
    · replace h := Aw hb h; clear hb; refine Bb ?_; refine A2 ?_; obtain rfl := OI h; exact ⟨(by intro hh; cases hh), rfl, Fx [1, 3] [1, 3, 70003] hq⟩
  · clear hx10; rintro e st' ⟨rfl, hl11⟩; refine Ay ?_; refine Aa ?_; refine Af hl11 ?_; obtain ⟨x12, hx12, h⟩ := bind_some h; obtain ⟨x13, hx13, h⟩ := bind_some h; refine B6 [⟨[], [(20000, 33)], (AV.list 1 Ac (0 : Int) x12 (.own 20000)), [(20000, .tok 1 3 x12.length)], []⟩, ⟨[], [], (.agg (Fe x13)), [], []⟩] [(8, (.vpt 8 64 0 0))] ⟨[(1, (.ptr 1 0)), (3, (.vpt 3 64 0 0)), (8, (.vpt 8 64 0 0))], [(1, .row 26 (Il a_g)), (3, .arr 1 51 64 (Q215 x10)), (8, .arr 1 53 64 (fun i_ => AV.eraseAll (fun n_ => Ca n_ [1, 3, 8, 70003]) ((fun i_ => (((Fe x13)).drop (i_ * 1)).take 1) i_)))], [(70003, ⟨1, 3, Cw (E7 64 [] x10)⟩)]⟩ [(Spec Try.prog 20 [(.agg (B1 a_g)), (.int .i64 (0 : Int))] [] (AV.list 1 Ac (0 : Int) x12 (.own 20000)) [(20000, .tok 1 3 x12.length)]), (Spec Try.prog 30 [(AV.list 1 Ac (0 : Int) x12 .none)] [] (.agg (Fe x13)) []), (64 = 64)] hq ⟨(Gi a_g (0 : Int) x12 hx12), (Rv x12 x13 hx13), rfl, trivial⟩ ?_; refine Af (Cm (st' := ⟨[(1, (.ptr 1 0)), (3, (.vpt 3 64 0 0)), (8, (.vpt 8 64 0 0))], [(1, .row 26 (Il a_g)), (3, .arr 1 51 64 (Q215 x10)), (8, .arr 1 53 64 (Us x13))], [(70003, ⟨1, 3, Cw (E7 64 [] x10)⟩)]⟩) (TmpsLe.refl _) (.same (.same (.arr (Bi rfl (fun k_ hk_ => (congrArg (AV.eraseAll (fun n_ => Ca n_ [1, 3, 8, 70003])) ((J4 (n := 64) (sz := 1) (f := (Us x13)) (fun _ _ => rfl)) k_ hk_)).trans rfl)) .nil)))) ?_; refine B6 [] [(9, Q210)] ⟨[(1, (.ptr 1 0)), (3, (.vpt 3 64 0 0)), (8, (.vpt 8 64 0 0)), (9, Q210)], [(1, .row 26 (Il a_g)), (3, .arr 1 51 64 (Q215 x10)), (8, .arr 1 53 64 (Us x13))], [(70003, ⟨1, 3, Cw (E7 64 [] x10)⟩)]⟩ [(AVle (.slice 0 0 (fun _ => []) .exact) Q210)] hq ⟨D2, trivial⟩ ?_; refine Ae ?_; refine B6 [] [(35, (P3 x10))] ⟨[(1, (.ptr 1 0)), (8, (.vpt 8 64 0 0)), (9, Q210), (35, (P3 x10)), (36, (.int .i64 (0 : Int)))], [(1, .row 26 (Il a_g)), (8, .arr 1 53 64 (Us x13))], []⟩ [(64 = 64), (AVle (.agg (Ge 64 (Q215 x10))) (P3 x10))] hq ⟨rfl, (U0 rfl), trivial⟩ ?_; refine Ah ?_; refine Af (st' := (fun ((l14, i15) : (List (A1) × Int)) => (⟨[(1, (.ptr 1 0)), (8, (.vpt 8 64 0 0)), (9, (Q214 l14)), (35, (P3 x10)), (36, (.int .i64 i15))], (Q218 a_g x13 l14), []⟩ : St)) (([] : List A1), (0 : Int))) (Le.trans (Om (t := 9) (nm := 5009) (sz' := 2) (fun i => Dq (([] : List A1).getD i Mh)) 38 rfl rfl (.inl ⟨rfl, rfl⟩) (fun h_ => absurd h_ (by decide))) (Fx (st' := ⟨[(1, (.ptr 1 0)), (8, (.vpt 8 64 0 0)), (9, (AV.list 2 Dq Mh ([] : List A1) (.own 5009))), (35, (P3 x10)), (36, (.int .i64 (0 : Int)))], [(1, .row 26 (Il a_g)), (8, .arr 1 53 64 (Us x13)), (5009, .tok 2 38 (([] : List A1).length))], []⟩) [1, 8, 9, 35, 36] [1, 8, 5009] hq)) ?_; obtain ⟨x23, hx23, h⟩ := bind_some h; refine Bc (fun ((l14, i15) : (List (A1) × Int)) => (⟨[(1, (.ptr 1 0)), (8, (.vpt 8 64 0 0)), (9, (Q214 l14)), (35, (P3 x10)), (36, (.int .i64 i15))], (Q218 a_g x13 l14), []⟩ : St)) _ (fun (l16 : List (A1)) (e : Exit) (st : St) => e = (.exit 2) ∧ Le Γ st (⟨[(9, (AV.list 2 Dq Mh l16 (.own 5009)))], [(5009, .tok 2 38 l16.length)], []⟩ : St)) ?_ hx23 ?_
    · rintro ⟨l14, i15⟩ y h; unfold Cc at h; refine Au ⟨[(1, (.ptr 1 0)), (8, (.vpt 8 64 0 0)), (9, (Q214 l14)), (35, (P3 x10)), (36, (.int .i64 i15)), (37, (.bool (decide ((i15 : Int) < (64 : Int)))))], (Q218 a_g x13 l14), []⟩ hq ?_; refine Ae ?_; refine Ak (decide ((i15 : Int) < (64 : Int))) (by kernel_rfl) (fun hb => ?_) (fun hb => ?_)
      · replace h := Aq hb h; clear hb; refine Aj ?_; refine Aa ?_; refine Ae ?_; obtain ⟨x21, hx21, h⟩ := bind_some h; refine E6 (fun (l17 : List (A1)) (e : Exit) (st : St) => e = .normal ∧ Le Γ st (⟨[(1, (.ptr 1 0)), (8, (.vpt 8 64 0 0)), (9, (AV.list 2 Dq Mh l17 (.own 5009))), (35, (P3 x10)), (36, (.int .i64 i15))], [(1, .row 26 (Il a_g)), (8, .arr 1 53 64 (Us x13)), (5009, .tok 2 38 l17.length)], []⟩ : St)) hx21 ?_ ?_
        · clear h hx21; intro y h; refine Ah ?_; obtain ⟨hc18, h⟩ := Ab h; refine B6 [] [(39, (Q212 x10 i15))] ⟨[(1, (.ptr 1 0)), (8, (.vpt 8 64 0 0)), (9, (Q214 l14)), (10, (.int .i64 i15)), (11, (Q212 x10 i15)), (35, (P3 x10)), (36, (.int .i64 i15))], (Q218 a_g x13 l14), []⟩ [(A6 i15 64), (AVle ((W1 x10).getD (i15).toNat .any) (Q212 x10 i15))] hq ⟨hc18, (Aaa (n := 64) (f := fun i => eLI64 (x10.getD i [])) rfl (fun _ _ => rfl) (Dv hc18) rfl), trivial⟩ ?_; refine Au ⟨[(1, (.ptr 1 0)), (8, (.vpt 8 64 0 0)), (9, (Q214 l14)), (10, (.int .i64 i15)), (11, (Q212 x10 i15)), (35, (P3 x10)), (36, (.int .i64 i15)), (42, (.bool (decide (((0 : Int) : Int) < ((x10.getD (i15).toNat []).length : Int)))))], (Q218 a_g x13 l14), []⟩ hq ?_; refine Ak (decide (((0 : Int) : Int) < ((x10.getD (i15).toNat []).length : Int))) (by kernel_rfl) (fun hb => ?_) (fun hb => ?_)
          · replace h := Aq hb h; clear hb; obtain ⟨x19, hx19, h⟩ := bind_some h; obtain ⟨hc20, h⟩ := Ab h; refine rg [⟨[], [(20000, 50)], (AV.list 1 Ac (0 : Int) x19 (.own 20000)), [(20000, .tok 1 3 x19.length)], []⟩] [(52, (AV.list 2 Dq Mh (P4 i15 x19) .exact)), (53, (AV.list 2 Dq Mh (l14 ++ (P4 i15 x19)) (.own 5009)))] ⟨[(1, (.ptr 1 0)), (8, (.vpt 8 64 0 0)), (9, (AV.list 2 Dq Mh (l14 ++ (P4 i15 x19)) (.own 5009))), (35, (P3 x10)), (36, (.int .i64 i15))], [(1, .row 26 (Il a_g)), (8, .arr 1 53 64 (Us x13)), (5009, .tok 2 38 ((l14 ++ (P4 i15 x19)).length))], []⟩ [(64 = 64), (Spec Try.prog 31 [(AV.list 1 eLI64 [] a_g.Pred .none), (.agg (Fe x13)), (.int .i64 i15), (Q212 x10 i15)] [] (AV.list 1 Ac (0 : Int) x19 (.own 20000)) [(20000, .tok 1 3 x19.length)]), (AVle (.slice 2 1 (fun i => ([[(.int .i64 i15), (AV.list 1 Ac (0 : Int) x19 .none)]] : List (List AV)).getD i []) .exact) (AV.list 2 Dq Mh (P4 i15 x19) .exact)), (l14.length = l14.length), (l14.length + (P4 i15 x19).length ≤ room), (AVle (.slice 2 (l14.length + (P4 i15 x19).length) (Ez l14.length (fun i => Dq (l14.getD i Mh)) (fun i => Dq ((P4 i15 x19).getD i Mh))) (.own 5009)) (AV.list 2 Dq Mh (l14 ++ (P4 i15 x19)) (.own 5009))), (l14.length + (P4 i15 x19).length = (l14 ++ (P4 i15 x19)).length)] hq ⟨rfl, (Vl a_g.Pred x13 i15 (x10.getD (i15).toNat []) x19 hx19), (Fj rfl (fun i hi => E2 (e := Dq) (d := Mh) (P4 i15 x19) i hi)), rfl, hc20, M0, (D5 _ _), trivial⟩ ?_; refine Am ?_; obtain rfl := OI h; exact ⟨rfl, Le.refl _ _⟩
          · replace h := Aw hb h; clear hb; refine Aj ?_; refine Am ?_; obtain rfl := OI h; exact ⟨rfl, Fx [1, 8, 9, 35, 36] [1, 8, 5009] hq⟩
        · clear hx21; rintro e st' ⟨rfl, hl22⟩; refine Aa ?_; refine Af hl22 ?_; refine Lr ⟨[(1, (.ptr 1 0)), (8, (.vpt 8 64 0 0)), (9, (AV.list 2 Dq Mh x21 (.own 5009))), (35, (P3 x10)), (36, (.int .i64 (Bg (i15 + (1 : Int)))))], [(1, .row 26 (Il a_g)), (8, .arr 1 53 64 (Us x13)), (5009, .tok 2 38 x21.length)], []⟩ hq ?_; obtain rfl := OI h; exact ⟨rfl, Le.refl _ _⟩
      · replace h := Aw hb h; clear hb; refine Bb ?_; refine A2 ?_; obtain rfl := OI h; exact ⟨(by intro hh; cases hh), rfl, Fx [9] [5009] hq⟩
    · clear hx23; rintro e st' ⟨rfl, hl24⟩; refine Ay ?_; refine Aa ?_; refine Af hl24 ?_; refine Au ⟨[(2, (AV.list 2 Dq Mh x23 (.own 5009)))], [(5009, .tok 2 38 x23.length)], []⟩ hq ?_; refine Ar ?_; obtain rfl := OI h; exact ⟨.inl rfl, [(5009, 20000)], by kernel_rfl⟩
def Bh (a_a : List (Int)) (a_b : List (Int)) : Int → Option (LR Int (Unit ⊕ Bool)) :=
  fun (i1 : Int) => (bif (decide ((i1 : Int) < (a_a.length : Int))) then (Cj (A6 i1 a_a.length) (Cj (A6 i1 a_b.length) (bif (((a_a.getD (i1).toNat (0 : Int)) : Int) != (a_b.getD (i1).toNat (0 : Int))) then (some (.done (.inr false))) else (some (.next (Bg (i1 + (1 : Int)))))))) else (some (.done (.inl ()))))
def Xd (a_a : List (Int)) : AV := (AV.list 1 Ac (0 : Int) a_a .none)
def Xv (a_b : List (Int)) : AV := (AV.list 1 Ac (0 : Int) a_b .none)
def Cs (a_a : List (Int)) (a_b : List (Int)) : Option Bool :=
  (bif (((a_a.length : Int) : Int) != (a_b.length : Int)) then (some false) else ((At (S := Int) (X := (Unit ⊕ Bool)) (Bh a_a a_b) (0 : Int)).bind (fun x4 => (match x4 with | (.inl _) => (some true) | (.inr r6) => (some r6)))))
theorem Ks (a_a : List (Int)) (a_b : List (Int)) (r : Bool) (h : Cs a_a a_b = some r) : Spec Try.prog 21 [(AV.list 1 Ac (0 : Int) a_a .none), (AV.list 1 Ac (0 : Int) a_b .none)] [] (.bool r) [] := by
  refine Ao (fn := Try.f21) Try.func21 rfl rfl (by kernel_rfl) (fun Γ hn hΓ => ?_); have hq : RgQ Try.prog Γ 26 [] := ⟨hn, mix, hΓ⟩; unfold Cs at h; refine Au ⟨[(0, (Xd a_a)), (1, (Xv a_b))], [], []⟩ hq ?_; refine Ae ?_; refine Au ⟨[(0, (Xd a_a)), (1, (Xv a_b)), (10, (.bool (((a_a.length : Int) : Int) != (a_b.length : Int))))], [], []⟩ hq ?_; refine Ak (((a_a.length : Int) : Int) != (a_b.length : Int)) (by kernel_rfl) (fun hb => ?_) (fun hb => ?_)
  · replace h := Aq hb h; clear hb; refine Au ⟨[(4, (.bool false))], [], []⟩ hq ?_; refine Ar ?_; refine A0 ?_; obtain rfl := OI h; exact ⟨.inl rfl, [], by kernel_rfl⟩
  · replace h := Aw hb h; clear hb; refine Aj ?_; refine Aa ?_; refine Ae ?_; refine Au ⟨[(0, (Xd a_a)), (1, (Xv a_b)), (5, (.int .i64 (0 : Int)))], [], []⟩ hq ?_; refine Ah ?_; refine Af (st' := (fun (i1 : Int) => (⟨[(0, (Xd a_a)), (1, (Xv a_b)), (5, (.int .i64 i1))], [], []⟩ : St)) (0 : Int)) (Le.refl _ _) ?_; obtain ⟨x4, hx4, h⟩ := bind_some h; refine Bc (fun (i1 : Int) => (⟨[(0, (Xd a_a)), (1, (Xv a_b)), (5, (.int .i64 i1))], [], []⟩ : St)) _ (fun (x_ : (Unit ⊕ Bool)) (e : Exit) (st : St) => match x_ with | (.inl _) => e = (.exit 0) ∧ Le Γ st (⟨[], [], []⟩ : St) | (.inr r_) => e = .ret ∧ Jx Try.prog Try.f21.results.toList [] (.bool r_) [] e st) ?_ hx4 ?_
    · intro i1 y h; unfold Bh at h; refine Ae ?_; refine Au ⟨[(0, (Xd a_a)), (1, (Xv a_b)), (5, (.int .i64 i1)), (14, (.bool (decide ((i1 : Int) < (a_a.length : Int)))))], [], []⟩ hq ?_; refine Ak (decide ((i1 : Int) < (a_a.length : Int))) (by kernel_rfl) (fun hb => ?_) (fun hb => ?_)
      · replace h := Aq hb h; clear hb; refine Aj ?_; refine Aa ?_; refine Ae ?_; refine Ah ?_; obtain ⟨hc2, h⟩ := Ab h; obtain ⟨hc3, h⟩ := Ab h; refine B6 [] [] ⟨[(0, (Xd a_a)), (1, (Xv a_b)), (5, (.int .i64 i1)), (25, (.bool (((a_a.getD (i1).toNat (0 : Int)) : Int) != (a_b.getD (i1).toNat (0 : Int)))))], [], []⟩ [(A6 i1 a_a.length), (A6 i1 a_b.length)] hq ⟨hc2, hc3, trivial⟩ ?_; refine Ak (((a_a.getD (i1).toNat (0 : Int)) : Int) != (a_b.getD (i1).toNat (0 : Int))) (by kernel_rfl) (fun hb => ?_) (fun hb => ?_)
        · replace h := Aq hb h; clear hb; refine Au ⟨[(4, (.bool false))], [], []⟩ hq ?_; refine Ar ?_; refine Bm ?_; refine A0 ?_; obtain rfl := OI h; exact ⟨(by intro hh; cases hh), rfl, ⟨.inl rfl, [], by kernel_rfl⟩⟩
        · replace h := Aw hb h; clear hb; refine Aj ?_; refine Am ?_; refine Aa ?_; refine Lr ⟨[(0, (Xd a_a)), (1, (Xv a_b)), (5, (.int .i64 (Bg (i1 + (1 : Int)))))], [], []⟩ hq ?_; obtain rfl := OI h; exact ⟨rfl, Le.refl _ _⟩
      · replace h := Aw hb h; clear hb; refine Bb ?_; refine A2 ?_; obtain rfl := OI h; exact ⟨(by intro hh; cases hh), rfl, Fx [] [] hq⟩
    · clear hx4; rcases x4 with _ | r6
      · rintro e st' ⟨rfl, hl5⟩; refine Ay ?_; refine Aa ?_; refine Af hl5 ?_; refine Au ⟨[(4, (.bool true))], [], []⟩ hq ?_; refine Ar ?_; obtain rfl := OI h; exact ⟨.inl rfl, [], by kernel_rfl⟩
      · rintro e st' ⟨rfl, hk⟩; refine Bm ?_; refine A0 ?_; obtain rfl := OI h; exact hk
def Cy (a_s : List (Int)) (a_v : Int) : Option Bool :=
  ((Ci a_s a_v).bind fun x1 => (some (decide (((0 : Int) : Int) ≤ x1))))
theorem H7 (a_s : List (Int)) (a_v : Int) (r : Bool) (h : Cy a_s a_v = some r) : Spec Try.prog 38 [(AV.list 1 Ac (0 : Int) a_s .none), (.int .i64 a_v)] [] (.bool r) [] := by
  refine Ao (fn := Try.f38) Try.func38 rfl rfl (by kernel_rfl) (fun Γ hn hΓ => ?_); have hq : RgQ Try.prog Γ 9 [] := ⟨hn, mix, hΓ⟩; unfold Cy at h; refine Au ⟨[(0, (AV.list 1 Ac (0 : Int) a_s .none)), (1, (.int .i64 a_v))], [], []⟩ hq ?_; obtain ⟨x1, hx1, h⟩ := bind_some h; refine B6 [⟨[], [], (.int .i64 x1), [], []⟩] [] ⟨[(4, (.bool (decide (((0 : Int) : Int) ≤ x1))))], [], []⟩ [(Spec Try.prog 55 [(AV.list 1 Ac (0 : Int) a_s .none), (.int .i64 a_v)] [] (.int .i64 x1) [])] hq ⟨(Gb a_s a_v x1 hx1), trivial⟩ ?_; refine Ar ?_; obtain rfl := OI h; exact ⟨.inl rfl, [], by kernel_rfl⟩
def Dk (a_x : Int) (x1 : List (A1)) : (Int × Int) → Option (LR (Int × Int) Int) :=
  fun ((i2, i3) : (Int × Int)) => (bif (decide ((i3 : Int) < (x1.length : Int))) then (Option.bind (α := Int) (Cj (A6 i3 x1.length) ((Cy ((x1.getD (i3).toNat (default : A1)).Body) a_x).bind fun x7 => (bif x7 then (some ((Bg (i2 + (1 : Int))))) else (some (i2))))) (fun x8 => ((some (.next (x8, (Bg (i3 + (1 : Int))))))))) else (some (.done i2)))
def Xg (x1 : List (A1)) : List (Nat × Own) := [(9, .tok 2 38 x1.length)]
def Vj (x1 : List (A1)) : AV := (.int .i64 (x1.length : Int))
def Um (x1 : List (A1)) : AV := (AV.list 2 Dq (default : A1) x1 (.own 9))
def Em (a_g : Ap) (a_x : Int) : Option Int :=
  ((Fg a_g).bind fun x1 => ((At (S := (Int × Int)) (X := Int) (Dk a_x x1) ((0 : Int), (0 : Int))).bind (fun x10 => ((some x10)))))
theorem I7 (a_g : Ap) (a_x : Int) (r : Int) (h : Em a_g a_x = some r) : Spec Try.prog 19 [(.agg (B1 a_g)), (.int .i64 a_x)] [] (.int .i64 r) [] := by
  refine Ao (fn := Try.f19) Try.func19 rfl rfl (by kernel_rfl) (fun Γ hn hΓ => ?_); have hq : RgQ Try.prog Γ 23 [] := ⟨hn, mix, hΓ⟩; unfold Em at h; refine Au ⟨[(1, (.int .i64 a_x)), (2, (.ptr 2 0))], [(2, .row 26 [(AV.list 1 eLI64 [] a_g.Succ .none), (AV.list 1 eLI64 [] a_g.Pred .none)])], []⟩ hq ?_; refine Au ⟨[(1, (.int .i64 a_x)), (2, (.ptr 2 0)), (5, (.int .i64 (0 : Int)))], [(2, .row 26 [(AV.list 1 eLI64 [] a_g.Succ .none), (AV.list 1 eLI64 [] a_g.Pred .none)])], []⟩ hq ?_; refine Ae ?_; obtain ⟨x1, hx1, h⟩ := bind_some h; refine B6 [⟨[], [(20000, 9)], (AV.list 2 Dq (default : A1) x1 (.own 20000)), [(20000, .tok 2 38 x1.length)], []⟩] [] ⟨[(1, (.int .i64 a_x)), (5, (.int .i64 (0 : Int))), (9, (Um x1)), (10, (Vj x1)), (11, (.int .i64 (0 : Int)))], (Xg x1), []⟩ [(Spec Try.prog 12 [(.agg (B1 a_g))] [] (AV.list 2 Dq (default : A1) x1 (.own 20000)) [(20000, .tok 2 38 x1.length)])] hq ⟨(Lw a_g x1 hx1), trivial⟩ ?_; refine Ah ?_; refine Af (st' := (fun ((i2, i3) : (Int × Int)) => (⟨[(1, (.int .i64 a_x)), (5, (.int .i64 i2)), (9, (Um x1)), (10, (Vj x1)), (11, (.int .i64 i3))], (Xg x1), []⟩ : St)) ((0 : Int), (0 : Int))) (Le.refl _ _) ?_; obtain ⟨x10, hx10, h⟩ := bind_some h; refine Bc (fun ((i2, i3) : (Int × Int)) => (⟨[(1, (.int .i64 a_x)), (5, (.int .i64 i2)), (9, (Um x1)), (10, (Vj x1)), (11, (.int .i64 i3))], (Xg x1), []⟩ : St)) _ (fun (i4 : Int) (e : Exit) (st : St) => e = (.exit 0) ∧ Le Γ st (⟨[(5, (.int .i64 i4))], [], []⟩ : St)) ?_ hx10 ?_
  · rintro ⟨i2, i3⟩ y h; unfold Dk at h; refine Au ⟨[(1, (.int .i64 a_x)), (5, (.int .i64 i2)), (9, (Um x1)), (10, (Vj x1)), (11, (.int .i64 i3)), (12, (.bool (decide ((i3 : Int) < (x1.length : Int)))))], (Xg x1), []⟩ hq ?_; refine Ae ?_; refine Ak (decide ((i3 : Int) < (x1.length : Int))) (by kernel_rfl) (fun hb => ?_) (fun hb => ?_)
    · replace h := Aq hb h; clear hb; refine Aj ?_; refine Aa ?_; refine Ae ?_; obtain ⟨x8, hx8, h⟩ := bind_some h; refine E6 (fun (i5 : Int) (e : Exit) (st : St) => e = .normal ∧ Le Γ st (⟨[(1, (.int .i64 a_x)), (5, (.int .i64 i5)), (9, (Um x1)), (10, (Vj x1)), (11, (.int .i64 i3))], (Xg x1), []⟩ : St)) hx8 ?_ ?_
      · clear h hx8; intro y h; refine Ah ?_; obtain ⟨hc6, h⟩ := Ab h; refine B6 [] [] ⟨[(1, (.int .i64 a_x)), (5, (.int .i64 i2)), (7, (.ptr 7 0)), (9, (Um x1)), (10, (Vj x1)), (11, (.int .i64 i3))], [(7, .row 38 [(.int .i64 (x1.getD (i3).toNat (default : A1)).Head), (AV.list 1 Ac (0 : Int) (x1.getD (i3).toNat (default : A1)).Body .none)]), (9, .tok 2 38 x1.length)], []⟩ [(A6 i3 x1.length)] hq ⟨hc6, trivial⟩ ?_; obtain ⟨x7, hx7, h⟩ := bind_some h; refine B6 [⟨[], [], (.bool x7), [], []⟩] [] ⟨[(1, (.int .i64 a_x)), (5, (.int .i64 i2)), (9, (Um x1)), (10, (Vj x1)), (11, (.int .i64 i3)), (18, (.bool x7))], (Xg x1), []⟩ [(Spec Try.prog 38 [(AV.list 1 Ac (0 : Int) (x1.getD (i3).toNat (default : A1)).Body .none), (.int .i64 a_x)] [] (.bool x7) [])] hq ⟨(H7 ((x1.getD (i3).toNat (default : A1)).Body) a_x x7 hx7), trivial⟩ ?_; refine Ak x7 (by kernel_rfl) (fun hb => ?_) (fun hb => ?_)
        · replace h := Aq hb h; clear hb; refine Lr ⟨[(1, (.int .i64 a_x)), (5, (.int .i64 (Bg (i2 + (1 : Int))))), (9, (Um x1)), (10, (Vj x1)), (11, (.int .i64 i3))], (Xg x1), []⟩ hq ?_; refine Am ?_; obtain rfl := OI h; exact ⟨rfl, Le.refl _ _⟩
        · replace h := Aw hb h; clear hb; refine Aj ?_; refine Am ?_; obtain rfl := OI h; exact ⟨rfl, Fx [1, 5, 9, 10, 11] [9] hq⟩
      · clear hx8; rintro e st' ⟨rfl, hl9⟩; refine Aa ?_; refine Af hl9 ?_; refine Lr ⟨[(1, (.int .i64 a_x)), (5, (.int .i64 x8)), (9, (Um x1)), (10, (Vj x1)), (11, (.int .i64 (Bg (i3 + (1 : Int)))))], (Xg x1), []⟩ hq ?_; obtain rfl := OI h; exact ⟨rfl, Le.refl _ _⟩
    · replace h := Aw hb h; clear hb; refine Bb ?_; refine A2 ?_; obtain rfl := OI h; exact ⟨(by intro hh; cases hh), rfl, Fx [5] [] hq⟩
  · clear hx10; rintro e st' ⟨rfl, hl11⟩; refine Ay ?_; refine Aa ?_; refine Af hl11 ?_; refine Au ⟨[(4, (.int .i64 x10))], [], []⟩ hq ?_; refine Ar ?_; obtain rfl := OI h; exact ⟨.inl rfl, [], by kernel_rfl⟩
def Bd (a_s : List ((Int × Int))) (a_v : (Int × Int)) : Int → Option (LR Int (Unit ⊕ Int)) :=
  fun (i1 : Int) => (bif (decide ((i1 : Int) < (a_s.length : Int))) then (Cj (A6 i1 a_s.length) (bif (((a_v.1 : Int) == (a_s.getD (i1).toNat ((0 : Int), (0 : Int))).1) && (((a_v.2 : Int) == (a_s.getD (i1).toNat ((0 : Int), (0 : Int))).2) && true)) then (some (.done (.inr i1))) else (some (.next (Bg (i1 + (1 : Int))))))) else (some (.done (.inl ()))))
def Yb (a_s : List ((Int × Int))) : AV := (.int .i64 (a_s.length : Int))
def Wh (a_s : List ((Int × Int))) : AV := (AV.list 2 Ce ((0 : Int), (0 : Int)) a_s .none)
def Wf (a_v : (Int × Int)) : List (Nat × Own) := [(3, .row 45 [(.int .i64 a_v.1), (.int .i64 a_v.2)])]
def Dh (a_s : List ((Int × Int))) (a_v : (Int × Int)) : Option Int :=
  ((At (S := Int) (X := (Unit ⊕ Int)) (Bd a_s a_v) (0 : Int)).bind (fun x3 => (match x3 with | (.inl _) => (some (-1 : Int)) | (.inr r5) => (some r5))))
theorem H0 (a_s : List ((Int × Int))) (a_v : (Int × Int)) (r : Int) (h : Dh a_s a_v = some r) : Spec Try.prog 58 [(AV.list 2 Ce ((0 : Int), (0 : Int)) a_s .none), (.agg (Ce a_v))] [] (.int .i64 r) [] := by
  refine Ao (fn := Try.f58) Try.func58 rfl rfl (by kernel_rfl) (fun Γ hn hΓ => ?_); have hq : RgQ Try.prog Γ 19 [] := ⟨hn, mix, hΓ⟩; unfold Dh at h; refine Au ⟨[(0, (Wh a_s)), (3, (.ptr 3 0))], (Wf a_v), []⟩ hq ?_; refine Ae ?_; refine Au ⟨[(0, (Wh a_s)), (3, (.ptr 3 0)), (7, (Yb a_s)), (8, (.int .i64 (0 : Int)))], (Wf a_v), []⟩ hq ?_; refine Ah ?_; refine Af (st' := (fun (i1 : Int) => (⟨[(0, (Wh a_s)), (3, (.ptr 3 0)), (7, (Yb a_s)), (8, (.int .i64 i1))], (Wf a_v), []⟩ : St)) (0 : Int)) (Le.refl _ _) ?_; obtain ⟨x3, hx3, h⟩ := bind_some h; refine Bc (fun (i1 : Int) => (⟨[(0, (Wh a_s)), (3, (.ptr 3 0)), (7, (Yb a_s)), (8, (.int .i64 i1))], (Wf a_v), []⟩ : St)) _ (fun (x_ : (Unit ⊕ Int)) (e : Exit) (st : St) => match x_ with | (.inl _) => e = (.exit 0) ∧ Le Γ st (⟨[], [], []⟩ : St) | (.inr r_) => e = .ret ∧ Jx Try.prog Try.f58.results.toList [] (.int .i64 r_) [] e st) ?_ hx3 ?_
  · intro i1 y h; unfold Bd at h; refine Au ⟨[(0, (Wh a_s)), (3, (.ptr 3 0)), (7, (Yb a_s)), (8, (.int .i64 i1)), (9, (.bool (decide ((i1 : Int) < (a_s.length : Int)))))], (Wf a_v), []⟩ hq ?_; refine Ae ?_; refine Ak (decide ((i1 : Int) < (a_s.length : Int))) (by kernel_rfl) (fun hb => ?_) (fun hb => ?_)
    · replace h := Aq hb h; clear hb; refine Aj ?_; refine Aa ?_; refine Ae ?_; refine Ah ?_; refine Au ⟨[(0, (Wh a_s)), (3, (.ptr 3 0)), (5, (.int .i64 i1)), (7, (Yb a_s)), (8, (.int .i64 i1))], (Wf a_v), []⟩ hq ?_; obtain ⟨hc2, h⟩ := Ab h; refine B6 [] [] ⟨[(0, (Wh a_s)), (3, (.ptr 3 0)), (5, (.int .i64 i1)), (7, (Yb a_s)), (8, (.int .i64 i1)), (16, (.bool (((a_v.1 : Int) == (a_s.getD (i1).toNat ((0 : Int), (0 : Int))).1) && (((a_v.2 : Int) == (a_s.getD (i1).toNat ((0 : Int), (0 : Int))).2) && true))))], (Wf a_v), []⟩ [(A6 i1 a_s.length)] hq ⟨hc2, trivial⟩ ?_; refine Ak (((a_v.1 : Int) == (a_s.getD (i1).toNat ((0 : Int), (0 : Int))).1) && (((a_v.2 : Int) == (a_s.getD (i1).toNat ((0 : Int), (0 : Int))).2) && true)) (by kernel_rfl) (fun hb => ?_) (fun hb => ?_)
      · replace h := Aq hb h; clear hb; refine Au ⟨[(4, (.int .i64 i1))], [], []⟩ hq ?_; refine Ar ?_; refine Bm ?_; refine A0 ?_; obtain rfl := OI h; exact ⟨(by intro hh; cases hh), rfl, ⟨.inl rfl, [], by kernel_rfl⟩⟩
      · replace h := Aw hb h; clear hb; refine Aj ?_; refine Am ?_; refine Aa ?_; refine Lr ⟨[(0, (Wh a_s)), (3, (.ptr 3 0)), (7, (Yb a_s)), (8, (.int .i64 (Bg (i1 + (1 : Int)))))], (Wf a_v), []⟩ hq ?_; obtain rfl := OI h; exact ⟨rfl, Le.refl _ _⟩
    · replace h := Aw hb h; clear hb; refine Bb ?_; refine A2 ?_; obtain rfl := OI h; exact ⟨(by intro hh; cases hh), rfl, Fx [] [] hq⟩
  · clear hx3; rcases x3 with _ | r5
    · rintro e st' ⟨rfl, hl4⟩; refine Ay ?_; refine Aa ?_; refine Af hl4 ?_; refine Au ⟨[(4, (.int .i64 (-1 : Int)))], [], []⟩ hq ?_; refine Ar ?_; obtain rfl := OI h; exact ⟨.inl rfl, [], by kernel_rfl⟩
    · rintro e st' ⟨rfl, hk⟩; refine Bm ?_; refine A0 ?_; obtain rfl := OI h; exact hk
def Cg (a_s : List ((Int × Int))) (a_v : (Int × Int)) : Option Bool :=
  ((Dh a_s a_v).bind fun x1 => (some (decide (((0 : Int) : Int) ≤ x1))))
theorem Gv (a_s : List ((Int × Int))) (a_v : (Int × Int)) (r : Bool) (h : Cg a_s a_v = some r) : Spec Try.prog 49 [(AV.list 2 Ce ((0 : Int), (0 : Int)) a_s .none), (.agg (Ce a_v))] [] (.bool r) [] := by
  refine Ao (fn := Try.f49) Try.func49 rfl rfl (by kernel_rfl) (fun Γ hn hΓ => ?_); have hq : RgQ Try.prog Γ 9 [] := ⟨hn, mix, hΓ⟩; unfold Cg at h; refine Au ⟨[(0, (AV.list 2 Ce ((0 : Int), (0 : Int)) a_s .none)), (3, (.ptr 3 0))], [(3, .row 45 [(.int .i64 a_v.1), (.int .i64 a_v.2)])], []⟩ hq ?_; obtain ⟨x1, hx1, h⟩ := bind_some h; refine B6 [⟨[], [], (.int .i64 x1), [], []⟩] [] ⟨[(4, (.bool (decide (((0 : Int) : Int) ≤ x1))))], [], []⟩ [(Spec Try.prog 58 [(AV.list 2 Ce ((0 : Int), (0 : Int)) a_s .none), (.agg (Ce a_v))] [] (.int .i64 x1) [])] hq ⟨(H0 a_s a_v x1 hx1), trivial⟩ ?_; refine Ar ?_; obtain rfl := OI h; exact ⟨.inl rfl, [], by kernel_rfl⟩
def Cb (a_succ : List (List (Int))) (a_ways : List ((Int × Int))) (i2 : Int) : (Int × List (List (Int))) → Option (LR (Int × List (List (Int))) (List (List (Int)))) :=
  fun ((i6, l7) : (Int × List (List (Int)))) => (bif (decide ((i6 : Int) < ((a_succ.getD (i2).toNat []).length : Int))) then (Option.bind (α := List (List (Int))) (Cj (A6 i6 (a_succ.getD (i2).toNat []).length) ((Cg a_ways (i2, ((a_succ.getD (i2).toNat []).getD (i6).toNat (0 : Int)))).bind fun x11 => (bif (!x11) then (Cj (A6 i2 l7.length) (Cj (A6 i2 l7.length) (Cj ((l7.getD (i2).toNat []).length + ([((a_succ.getD (i2).toNat []).getD (i6).toNat (0 : Int))] : List (Int)).length ≤ room) (Cj (A6 i2 l7.length) (some ((l7.set (i2).toNat ((l7.getD (i2).toNat []) ++ ([((a_succ.getD (i2).toNat []).getD (i6).toNat (0 : Int))] : List (Int)))))))))) else (some (l7))))) (fun x16 => ((some (.next ((Bg (i6 + (1 : Int))), x16)))))) else (some (.done l7)))
def C4 (a_succ : List (List (Int))) (a_ways : List ((Int × Int))) : (Int × List (List (Int))) → Option (LR (Int × List (List (Int))) (List (List (Int)))) :=
  fun ((i2, l3) : (Int × List (List (Int)))) => (bif (decide ((i2 : Int) < (a_succ.length : Int))) then (Cj (A6 i2 a_succ.length) ((At (S := (Int × List (List (Int)))) (X := List (List (Int))) (Cb a_succ a_ways i2) ((0 : Int), l3)).bind (fun x18 => ((some (.next ((Bg (i2 + (1 : Int))), x18))))))) else (some (.done l3)))
def I9 (l7 : List (List (Int))) (i2 : Int) := (l7.getD (i2).toNat [])
def Jc (a_succ : List (List (Int))) : AV := (AV.list 1 eLI64 [] a_succ .none)
def Mj (a_succ : List (List (Int))) : AV := (.int .i64 (a_succ.length : Int))
def Im (a_ways : List ((Int × Int))) : AV := (AV.list 2 Ce ((0 : Int), (0 : Int)) a_ways .none)
def U9 (a_succ : List (List (Int))) (i2 : Int) : AV := (.int .i64 ((a_succ.getD (i2).toNat []).length : Int))
def So (a_succ : List (List (Int))) (i2 : Int) : AV := (AV.list 1 Ac (0 : Int) (a_succ.getD (i2).toNat []) .none)
def P2 (a_succ : List (List (Int))) := (List.replicate ((a_succ.length : Int)).toNat ([] : List (Int)))
def Q243 (a_succ : List (List (Int))) (i2 : Int) (i6 : Int) : AV := (.int .i64 ((a_succ.getD (i2).toNat []).getD (i6).toNat (0 : Int)))
def Q241 (l3 : List (List (Int))) : List (Nat × Own) := [(12, .arr 1 36 l3.length (Cr 1 Ac (0 : Int) l3 (Tag.fam 70012)))]
def Q242 (l7 : List (List (Int))) : List (Nat × Own) := [(12, .arr 1 36 l7.length (Cr 1 Ac (0 : Int) l7 (Tag.fam 70012)))]
def Kw (a_succ : List (List (Int))) (i2 : Int) (i6 : Int) := ([((a_succ.getD (i2).toNat []).getD (i6).toNat (0 : Int))] : List (Int))
def Q244 (a_ways : List ((Int × Int))) (l7 : List (List (Int))) (i2 : Int) (a_succ : List (List (Int))) (i6 : Int) : List (Nat × AV) := [(1, (Im a_ways)), (5, (.vsl 12 l7.length)), (6, (.int .i64 i2)), (13, (Jc a_succ)), (14, (Mj a_succ)), (15, (.int .i64 i2)), (20, (So a_succ i2)), (21, (U9 a_succ i2)), (22, (.int .i64 i6))]
def Fl (a_succ : List (List (Int))) (a_ways : List ((Int × Int))) : Option (List (List (Int))) :=
  (Cj (0 ≤ (a_succ.length : Int) ∧ (a_succ.length : Int) ≤ (a_succ.length : Int) ∧ (a_succ.length : Int) ≤ (room : Int)) ((At (S := (Int × List (List (Int)))) (X := List (List (Int))) (C4 a_succ a_ways) ((0 : Int), (List.replicate ((a_succ.length : Int)).toNat ([] : List (Int))))).bind (fun x20 => ((some x20)))))
theorem Px (a_succ : List (List (Int))) (a_ways : List ((Int × Int))) (r : List (List (Int))) (h : Fl a_succ a_ways = some r) : Spec Try.prog 33 [(AV.list 1 eLI64 [] a_succ .none), (AV.list 2 Ce ((0 : Int), (0 : Int)) a_ways .none)] [] (AV.list 1 eLI64 [] r (.own 20000)) [(20000, .tok 1 36 r.length)] := by
  refine Ao (fn := Try.f33) Try.func33 rfl rfl (by kernel_rfl) (fun Γ hn hΓ => ?_); have hq : RgQ Try.prog Γ 45 [] := ⟨hn, mix, hΓ⟩; unfold Fl at h; refine B6 [] [(4, (AV.list 1 eLI64 [] ([] : List (List (Int))) .exact))] ⟨[(0, (Jc a_succ)), (1, (Im a_ways))], [], []⟩ [(AVle (.slice 0 0 (fun _ => []) .exact) (AV.list 1 eLI64 [] ([] : List (List (Int))) .exact))] hq ⟨D2, trivial⟩ ?_; obtain ⟨hc1, h⟩ := Ab h; refine B6 [] [] ⟨[(0, (Jc a_succ)), (1, (Im a_ways)), (5, (.vsl 12 ((a_succ.length : Int)).toNat))], [(12, .arr 1 36 (((a_succ.length : Int)).toNat) (fun i_ => AV.eraseAll (fun n_ => Ca n_ [12]) ((fun _ => [(.slice 0 0 (fun _ => []) .exact)]) i_)))], []⟩ [(0 ≤ (a_succ.length : Int) ∧ (a_succ.length : Int) ≤ (a_succ.length : Int) ∧ (a_succ.length : Int) ≤ (room : Int))] hq ⟨hc1, trivial⟩ ?_; refine Af (Le.trans (Cm (st' := ⟨[(0, (Jc a_succ)), (1, (Im a_ways)), (5, (.vsl 12 ((a_succ.length : Int)).toNat))], [(12, .arr 1 36 (((a_succ.length : Int)).toNat) (Cr 1 Ac (0 : Int) (P2 a_succ) (fun _ => .exact)))], []⟩) (TmpsLe.refl _) (.arr Wd .nil)) (Le.trans (Le.trans (R5 (r := 12) (b := 70012) Ac (0 : Int) (P2 a_succ) 3 rfl rfl (List.length_replicate ..).symm (fun h_ => absurd h_ (by decide))) (B5 (st' := ⟨[(0, (Jc a_succ)), (1, (Im a_ways)), (5, (.vsl 12 ((a_succ.length : Int)).toNat))], [(12, .arr 1 36 (((a_succ.length : Int)).toNat) (Cr 1 Ac (0 : Int) (P2 a_succ) (Tag.fam 70012)))], [(70012, ⟨1, 3, Cw (P2 a_succ)⟩)]⟩) (by kernel_rfl))) (B5 (congrArg (fun k_ : Nat => (⟨[(0, (Jc a_succ)), (1, (Im a_ways)), (5, (.vsl 12 k_))], [(12, .arr 1 36 k_ (Cr 1 Ac (0 : Int) (P2 a_succ) (Tag.fam 70012)))], [(70012, ⟨1, 3, Cw (P2 a_succ)⟩)]⟩ : St)) (show ((a_succ.length : Int)).toNat = (P2 a_succ).length from (List.length_replicate ..).symm))))) ?_; refine Ae ?_; refine Au ⟨[(1, (Im a_ways)), (5, (.vsl 12 (P2 a_succ).length)), (13, (Jc a_succ)), (14, (Mj a_succ)), (15, (.int .i64 (0 : Int)))], [(12, .arr 1 36 ((P2 a_succ).length) (Cr 1 Ac (0 : Int) (P2 a_succ) (Tag.fam 70012)))], [(70012, ⟨1, 3, Cw (P2 a_succ)⟩)]⟩ hq ?_; refine Ah ?_; refine Af (st' := (fun ((i2, l3) : (Int × List (List (Int)))) => (⟨[(1, (Im a_ways)), (5, (.vsl 12 l3.length)), (13, (Jc a_succ)), (14, (Mj a_succ)), (15, (.int .i64 i2))], (Q241 l3), [(70012, ⟨1, 3, Cw l3⟩)]⟩ : St)) ((0 : Int), (P2 a_succ))) (Le.refl _ _) ?_; obtain ⟨x20, hx20, h⟩ := bind_some h; refine Bc (fun ((i2, l3) : (Int × List (List (Int)))) => (⟨[(1, (Im a_ways)), (5, (.vsl 12 l3.length)), (13, (Jc a_succ)), (14, (Mj a_succ)), (15, (.int .i64 i2))], (Q241 l3), [(70012, ⟨1, 3, Cw l3⟩)]⟩ : St)) _ (fun (l4 : List (List (Int))) (e : Exit) (st : St) => e = (.exit 0) ∧ Le Γ st (⟨[(5, (.vsl 12 l4.length))], [(12, .arr 1 36 l4.length (Cr 1 Ac (0 : Int) l4 (Tag.fam 70012)))], [(70012, ⟨1, 3, Cw l4⟩)]⟩ : St)) ?_ hx20 ?_
  · rintro ⟨i2, l3⟩ y h; unfold C4 at h; refine Au ⟨[(1, (Im a_ways)), (5, (.vsl 12 l3.length)), (13, (Jc a_succ)), (14, (Mj a_succ)), (15, (.int .i64 i2)), (16, (.bool (decide ((i2 : Int) < (a_succ.length : Int)))))], (Q241 l3), [(70012, ⟨1, 3, Cw l3⟩)]⟩ hq ?_; refine Ae ?_; refine Ak (decide ((i2 : Int) < (a_succ.length : Int))) (by kernel_rfl) (fun hb => ?_) (fun hb => ?_)
    · replace h := Aq hb h; clear hb; refine Aj ?_; refine Aa ?_; refine Ae ?_; refine Ah ?_; obtain ⟨hc5, h⟩ := Ab h; refine B6 [] [] ⟨[(1, (Im a_ways)), (5, (.vsl 12 l3.length)), (6, (.int .i64 i2)), (7, (So a_succ i2)), (13, (Jc a_succ)), (14, (Mj a_succ)), (15, (.int .i64 i2))], (Q241 l3), [(70012, ⟨1, 3, Cw l3⟩)]⟩ [(A6 i2 a_succ.length)] hq ⟨hc5, trivial⟩ ?_; refine Au ⟨[(1, (Im a_ways)), (5, (.vsl 12 l3.length)), (6, (.int .i64 i2)), (13, (Jc a_succ)), (14, (Mj a_succ)), (15, (.int .i64 i2)), (20, (So a_succ i2)), (21, (U9 a_succ i2)), (22, (.int .i64 (0 : Int)))], (Q241 l3), [(70012, ⟨1, 3, Cw l3⟩)]⟩ hq ?_; refine Ah ?_; refine Af (st' := (fun ((i6, l7) : (Int × List (List (Int)))) => (⟨(Q244 a_ways l7 i2 a_succ i6), (Q242 l7), [(70012, ⟨1, 3, Cw l7⟩)]⟩ : St)) ((0 : Int), l3)) (Le.refl _ _) ?_; obtain ⟨x18, hx18, h⟩ := bind_some h; refine Bc (fun ((i6, l7) : (Int × List (List (Int)))) => (⟨(Q244 a_ways l7 i2 a_succ i6), (Q242 l7), [(70012, ⟨1, 3, Cw l7⟩)]⟩ : St)) _ (fun (l8 : List (List (Int))) (e : Exit) (st : St) => e = (.exit 2) ∧ Le Γ st (⟨[(1, (Im a_ways)), (5, (.vsl 12 l8.length)), (13, (Jc a_succ)), (14, (Mj a_succ)), (15, (.int .i64 i2))], [(12, .arr 1 36 l8.length (Cr 1 Ac (0 : Int) l8 (Tag.fam 70012)))], [(70012, ⟨1, 3, Cw l8⟩)]⟩ : St)) ?_ hx18 ?_
      · rintro ⟨i6, l7⟩ y h; unfold Cb at h; refine Au ⟨[(1, (Im a_ways)), (5, (.vsl 12 l7.length)), (6, (.int .i64 i2)), (13, (Jc a_succ)), (14, (Mj a_succ)), (15, (.int .i64 i2)), (20, (So a_succ i2)), (21, (U9 a_succ i2)), (22, (.int .i64 i6)), (23, (.bool (decide ((i6 : Int) < ((a_succ.getD (i2).toNat []).length : Int)))))], (Q242 l7), [(70012, ⟨1, 3, Cw l7⟩)]⟩ hq ?_; refine Ae ?_; refine Ak (decide ((i6 : Int) < ((a_succ.getD (i2).toNat []).length : Int))) (by kernel_rfl) (fun hb => ?_) (fun hb => ?_)
        · replace h := Aq hb h; clear hb; refine Aj ?_; refine Aa ?_; refine Ae ?_; obtain ⟨x16, hx16, h⟩ := bind_some h; refine E6 (fun (l9 : List (List (Int))) (e : Exit) (st : St) => e = .normal ∧ Le Γ st (⟨[(1, (Im a_ways)), (5, (.vsl 12 l9.length)), (6, (.int .i64 i2)), (13, (Jc a_succ)), (14, (Mj a_succ)), (15, (.int .i64 i2)), (20, (So a_succ i2)), (21, (U9 a_succ i2)), (22, (.int .i64 i6))], [(12, .arr 1 36 l9.length (Cr 1 Ac (0 : Int) l9 (Tag.fam 70012)))], [(70012, ⟨1, 3, Cw l9⟩)]⟩ : St)) hx16 ?_ ?_
          · clear h hx16; intro y h; refine Ah ?_; obtain ⟨hc10, h⟩ := Ab h; refine B6 [] [] ⟨[(1, (Im a_ways)), (5, (.vsl 12 l7.length)), (6, (.int .i64 i2)), (9, (Q243 a_succ i2 i6)), (13, (Jc a_succ)), (14, (Mj a_succ)), (15, (.int .i64 i2)), (20, (So a_succ i2)), (21, (U9 a_succ i2)), (22, (.int .i64 i6))], (Q242 l7), [(70012, ⟨1, 3, Cw l7⟩)]⟩ [(A6 i6 (a_succ.getD (i2).toNat []).length)] hq ⟨hc10, trivial⟩ ?_; obtain ⟨x11, hx11, h⟩ := bind_some h; refine B6 [⟨[], [], (.bool x11), [], []⟩] [] ⟨[(1, (Im a_ways)), (5, (.vsl 12 l7.length)), (6, (.int .i64 i2)), (9, (Q243 a_succ i2 i6)), (13, (Jc a_succ)), (14, (Mj a_succ)), (15, (.int .i64 i2)), (20, (So a_succ i2)), (21, (U9 a_succ i2)), (22, (.int .i64 i6)), (31, (.bool (!x11)))], (Q242 l7), [(70012, ⟨1, 3, Cw l7⟩)]⟩ [(Spec Try.prog 49 [(Im a_ways), (.agg [(.int .i64 i2), (Q243 a_succ i2 i6)])] [] (.bool x11) [])] hq ⟨(Gv a_ways (i2, ((a_succ.getD (i2).toNat []).getD (i6).toNat (0 : Int))) x11 hx11), trivial⟩ ?_; refine Ak (!x11) (by kernel_rfl) (fun hb => ?_) (fun hb => ?_)
            · replace h := Aq hb h; clear hb; obtain ⟨hc12, h⟩ := Ab h; obtain ⟨hc13, h⟩ := Ab h; obtain ⟨hc14, h⟩ := Ab h; obtain ⟨hc15, h⟩ := Ab h; refine Af (Le.trans (Uj (r := 12) (b := 70012) (k := 60012) Ac (0 : Int) l7 (i2).toNat 3 rfl rfl rfl rfl (Dv hc12) (by kernel_rfl) (.here .nil)) (B5 (st' := ⟨[(1, (Im a_ways)), (5, (.vsl 12 l7.length)), (6, (.int .i64 i2)), (9, (Q243 a_succ i2 i6)), (13, (Jc a_succ)), (14, (Mj a_succ)), (15, (.int .i64 i2)), (20, (So a_succ i2)), (21, (U9 a_succ i2)), (22, (.int .i64 i6)), (31, (.bool (!x11)))], [(12, .arr 1 36 l7.length (Cr 1 Ac (0 : Int) l7 (Db 70012 (i2).toNat 60012))), (60012, .tok 1 3 ((I9 l7 i2).length))], [(70012, ⟨1, 3, Jk l7 (i2).toNat⟩)]⟩) (by kernel_rfl))) ?_; refine rg [] [(37, (AV.list 1 Ac (0 : Int) (I9 l7 i2) (.own 60012))), (39, (AV.list 1 Ac (0 : Int) (Kw a_succ i2 i6) .exact)), (40, (AV.list 1 Ac (0 : Int) ((I9 l7 i2) ++ (Kw a_succ i2 i6)) (.own 60012)))] ⟨(Q244 a_ways l7 i2 a_succ i6), [(12, .arr 1 36 l7.length (fun i_ => AV.eraseAll (fun n_ => Ca n_ [12, 60012, 70012]) ((Fc (Cr 1 Ac (0 : Int) l7 (Db 70012 (i2).toNat 60012)) (i2).toNat 0 [(AV.list 1 Ac (0 : Int) ((I9 l7 i2) ++ (Kw a_succ i2 i6)) (.own 60012))]) i_))), (60012, .tok 1 3 (((I9 l7 i2) ++ (Kw a_succ i2 i6)).length))], [(70012, ⟨1, 3, Jk l7 (i2).toNat⟩)]⟩ [(A6 i2 l7.length), (l7.length = l7.length), (AVle (((Cr 1 Ac (0 : Int) l7 (Db 70012 (i2).toNat 60012)) (i2).toNat).getD 0 .any) (AV.list 1 Ac (0 : Int) (I9 l7 i2) (.own 60012))), (AVle (.slice 1 1 (fun i => ([[(Q243 a_succ i2 i6)]] : List (List AV)).getD i []) .exact) (AV.list 1 Ac (0 : Int) (Kw a_succ i2 i6) .exact)), ((I9 l7 i2).length = (I9 l7 i2).length), ((I9 l7 i2).length + (Kw a_succ i2 i6).length ≤ room), (AVle (.slice 1 ((I9 l7 i2).length + (Kw a_succ i2 i6).length) (Ez (I9 l7 i2).length (fun i => Ac ((I9 l7 i2).getD i (0 : Int))) (fun i => Ac ((Kw a_succ i2 i6).getD i (0 : Int)))) (.own 60012)) (AV.list 1 Ac (0 : Int) ((I9 l7 i2) ++ (Kw a_succ i2 i6)) (.own 60012))), ((I9 l7 i2).length + (Kw a_succ i2 i6).length = ((I9 l7 i2) ++ (Kw a_succ i2 i6)).length), (A6 i2 l7.length), (l7.length = l7.length)] hq ⟨hc13, rfl, Oz, (Fj rfl (fun i hi => E2 (e := Ac) (d := (0 : Int)) (Kw a_succ i2 i6) i hi)), rfl, hc14, M0, (D5 _ _), hc15, rfl, trivial⟩ ?_; refine Am ?_; obtain rfl := OI h; exact ⟨rfl, Le.trans (Le.trans (Le.trans (Yv (r := 12) (b := 70012) (k := 60012) Ac (0 : Int) l7 (i2).toNat ((I9 l7 i2) ++ (Kw a_succ i2 i6)) 3 rfl (Qh (Dv hc12) rfl rfl) rfl rfl rfl rfl (Dv hc12) (by kernel_rfl) (.here (.tok .nil)) (by rw [hΓ]; rfl)) (B5 (st' := ⟨(Q244 a_ways l7 i2 a_succ i6), [(12, .arr 1 36 l7.length (Cr 1 Ac (0 : Int) (l7.set (i2).toNat ((I9 l7 i2) ++ (Kw a_succ i2 i6))) (Tag.fam 70012)))], [(70012, ⟨1, 3, Cw (l7.set (i2).toNat ((I9 l7 i2) ++ (Kw a_succ i2 i6)))⟩)]⟩) (by kernel_rfl))) (B5 (congrArg (fun k_ : Nat => (⟨[(1, (Im a_ways)), (5, (.vsl 12 k_)), (6, (.int .i64 i2)), (13, (Jc a_succ)), (14, (Mj a_succ)), (15, (.int .i64 i2)), (20, (So a_succ i2)), (21, (U9 a_succ i2)), (22, (.int .i64 i6))], [(12, .arr 1 36 k_ (Cr 1 Ac (0 : Int) (l7.set (i2).toNat ((I9 l7 i2) ++ (Kw a_succ i2 i6))) (Tag.fam 70012)))], [(70012, ⟨1, 3, Cw (l7.set (i2).toNat ((I9 l7 i2) ++ (Kw a_succ i2 i6)))⟩)]⟩ : St)) (show l7.length = (l7.set (i2).toNat ((I9 l7 i2) ++ (Kw a_succ i2 i6))).length from (List.length_set ..).symm)))) (Le.refl _ _)⟩
            · replace h := Aw hb h; clear hb; refine Aj ?_; refine Am ?_; obtain rfl := OI h; exact ⟨rfl, Fx [1, 5, 6, 13, 14, 15, 20, 21, 22] [12, 70012] hq⟩
          · clear hx16; rintro e st' ⟨rfl, hl17⟩; refine Aa ?_; refine Af hl17 ?_; refine Lr ⟨[(1, (Im a_ways)), (5, (.vsl 12 x16.length)), (6, (.int .i64 i2)), (13, (Jc a_succ)), (14, (Mj a_succ)), (15, (.int .i64 i2)), (20, (So a_succ i2)), (21, (U9 a_succ i2)), (22, (.int .i64 (Bg (i6 + (1 : Int)))))], [(12, .arr 1 36 x16.length (Cr 1 Ac (0 : Int) x16 (Tag.fam 70012)))], [(70012, ⟨1, 3, Cw x16⟩)]⟩ hq ?_; obtain rfl := OI h; exact ⟨rfl, Le.refl _ _⟩
        · replace h := Aw hb h; clear hb; refine Bb ?_; refine A2 ?_; obtain rfl := OI h; exact ⟨(by intro hh; cases hh), rfl, Fx [1, 5, 13, 14, 15] [12, 70012] hq⟩
      · clear hx18; rintro e st' ⟨rfl, hl19⟩; refine Ay ?_; refine Am ?_; refine Aa ?_; refine Af hl19 ?_; refine Lr ⟨[(1, (Im a_ways)), (5, (.vsl 12 x18.length)), (13, (Jc a_succ)), (14, (Mj a_succ)), (15, (.int .i64 (Bg (i2 + (1 : Int)))))], [(12, .arr 1 36 x18.length (Cr 1 Ac (0 : Int) x18 (Tag.fam 70012)))], [(70012, ⟨1, 3, Cw x18⟩)]⟩ hq ?_; obtain rfl := OI h; exact ⟨rfl, Le.refl _ _⟩
    · replace h := Aw hb h; clear hb; refine Bb ?_; refine A2 ?_; obtain rfl := OI h; exact ⟨(by intro hh; cases hh), rfl, Fx [5] [12, 70012] hq⟩
  · clear hx20; rintro e st' ⟨rfl, hl21⟩; refine Ay ?_; refine Aa ?_; refine Af hl21 ?_; refine Au ⟨[(4, (.vsl 12 x20.length))], [(12, .arr 1 36 x20.length (Cr 1 Ac (0 : Int) x20 (Tag.fam 70012)))], [(70012, ⟨1, 3, Cw x20⟩)]⟩ hq ?_; refine Af (Le.trans (G2 (nm := 12) (sz := 1) (n := x20.length) (e := 36) (f := (Cr 1 Ac (0 : Int) x20 (Tag.fam 70012))) (g := (fun i => eLI64 (x20.getD i []))) rfl ⟨rfl, trivial⟩ (fun _ _ => rfl) (by rw [hΓ]; rfl)) (Fx (st' := ⟨[(4, (AV.list 1 eLI64 [] x20 (.own 12)))], [(12, .tok 1 36 x20.length)], []⟩) [4] [12] hq)) ?_; refine Ar ?_; obtain rfl := OI h; exact ⟨.inl rfl, [(12, 20000)], by kernel_rfl⟩
def Et (a_to : Int) (a_p1 : List (Bool)) : Option (Bool × List (Bool)) :=
  (Cj (A6 a_to 64) (some ((a_p1.getD (a_to).toNat false), a_p1)))
theorem Nh (a_to : Int) (a_p1 : List (Bool)) (r : (Bool × List (Bool))) (h : Et a_to a_p1 = some r) : Spec Try.prog 35 [(.int .i64 a_to), (.vpt 34001 64 0 0)] [(34001, .arr 1 53 64 (fun i => eB (a_p1.getD i false)))] (.bool r.1) [(34001, .arr 1 53 64 (fun i => eB (r.2.getD i false)))] := by
  refine Ao (fn := Try.f35) Try.func35 rfl rfl (by kernel_rfl) (fun Γ hn hΓ => ?_); have hq : RgQ Try.prog Γ 7 [(34001, .arr 1 53 64 (fun i => eB (a_p1.getD i false)))] := ⟨hn, mix, hΓ⟩; unfold Et at h; refine Au ⟨[(0, (.int .i64 a_to)), (1, (.vpt 34001 64 0 0))], [(34001, .arr 1 53 64 (fun i => eB (a_p1.getD i false)))], []⟩ hq ?_; obtain ⟨hc1, h⟩ := Ab h; refine B6 [] [] ⟨[(3, (.bool (a_p1.getD (a_to).toNat false)))], [(34001, .arr 1 53 64 (fun i => eB (a_p1.getD i false)))], []⟩ [(A6 a_to 64), (64 = 64)] hq ⟨hc1, rfl, trivial⟩ ?_; refine Ar ?_; obtain rfl := OI h; exact ⟨.inl rfl, [(34001, 34001)], by kernel_rfl⟩
def Be (a_s : List (Int)) : (Int × List (Bool)) → Option (LR (Int × List (Bool)) (List (Bool) ⊕ (Int × List (Bool)))) :=
  fun ((i1, l2) : (Int × List (Bool))) => (bif (decide ((i1 : Int) < (a_s.length : Int))) then (Cj (A6 i1 a_s.length) ((Et (a_s.getD (i1).toNat (0 : Int)) l2).bind fun x5 => (bif x5.1 then (some (.done (.inr (i1, x5.2)))) else (some (.next ((Bg (i1 + (1 : Int))), x5.2)))))) else (some (.done (.inl l2))))
def Y7 : AV := (.clo 35 [] [(.vpt 38000 64 0 0)])
def Y9 (a_s : List (Int)) : AV := (AV.list 1 Ac (0 : Int) a_s .none)
def Q245 (a_s : List (Int)) (i1 : Int) (l2 : List (Bool)) := (⟨[(0, (Y9 a_s)), (1, Y7), (7, (.int .i64 (a_s.length : Int))), (8, (.int .i64 i1))], [(38000, .arr 1 53 64 (fun i => eB (l2.getD i false)))], []⟩ : St)
def Dd (a_s : List (Int)) (a_fc0 : List (Bool)) : Option (Int × List (Bool)) :=
  ((At (S := (Int × List (Bool))) (X := (List (Bool) ⊕ (Int × List (Bool)))) (Be a_s) ((0 : Int), a_fc0)).bind (fun x6 => (match x6 with | (.inl l3) => (some ((-1 : Int), l3)) | (.inr r8) => (some r8))))
theorem Ht (a_s : List (Int)) (a_fc0 : List (Bool)) (r : (Int × List (Bool))) (h : Dd a_s a_fc0 = some r) : Spec Try.prog 50 [(AV.list 1 Ac (0 : Int) a_s .none), (.clo 35 [] [(.vpt 38000 64 0 0)])] [(38000, .arr 1 53 64 (fun i => eB (a_fc0.getD i false)))] (.int .i64 r.1) [(38000, .arr 1 53 64 (fun i => eB (r.2.getD i false)))] := by
  refine Ao (fn := Try.f50) Try.func50 rfl rfl (by kernel_rfl) (fun Γ hn hΓ => ?_); have hq : RgQ Try.prog Γ 19 [(38000, .arr 1 53 64 (fun i => eB (a_fc0.getD i false)))] := ⟨hn, mix, hΓ⟩; unfold Dd at h; refine Au ⟨[(0, (Y9 a_s)), (1, Y7)], [(38000, .arr 1 53 64 (fun i => eB (a_fc0.getD i false)))], []⟩ hq ?_; refine Ae ?_; refine Au ⟨[(0, (Y9 a_s)), (1, Y7), (7, (.int .i64 (a_s.length : Int))), (8, (.int .i64 (0 : Int)))], [(38000, .arr 1 53 64 (fun i => eB (a_fc0.getD i false)))], []⟩ hq ?_; refine Ah ?_; refine Af (st' := (fun ((i1, l2) : (Int × List (Bool))) => (Q245 a_s i1 l2)) ((0 : Int), a_fc0)) (Le.refl _ _) ?_; obtain ⟨x6, hx6, h⟩ := bind_some h; refine Bc (fun ((i1, l2) : (Int × List (Bool))) => (Q245 a_s i1 l2)) _ (fun (x_ : (List (Bool) ⊕ (Int × List (Bool)))) (e : Exit) (st : St) => match x_ with | (.inl l3) => e = (.exit 0) ∧ Le Γ st (⟨[], [(38000, .arr 1 53 64 (fun i => eB (l3.getD i false)))], []⟩ : St) | (.inr r_) => e = .ret ∧ Jx Try.prog Try.f50.results.toList [(38000, .arr 1 53 64 (fun i => eB (a_fc0.getD i false)))] (.int .i64 r_.1) [(38000, .arr 1 53 64 (fun i => eB (r_.2.getD i false)))] e st) ?_ hx6 ?_
  · rintro ⟨i1, l2⟩ y h; unfold Be at h; refine Au ⟨[(0, (Y9 a_s)), (1, Y7), (7, (.int .i64 (a_s.length : Int))), (8, (.int .i64 i1)), (9, (.bool (decide ((i1 : Int) < (a_s.length : Int)))))], [(38000, .arr 1 53 64 (fun i => eB (l2.getD i false)))], []⟩ hq ?_; refine Ae ?_; refine Ak (decide ((i1 : Int) < (a_s.length : Int))) (by kernel_rfl) (fun hb => ?_) (fun hb => ?_)
    · replace h := Aq hb h; clear hb; refine Aj ?_; refine Aa ?_; refine Ae ?_; refine Ah ?_; refine Au ⟨[(0, (Y9 a_s)), (1, Y7), (5, (.int .i64 i1)), (7, (.int .i64 (a_s.length : Int))), (8, (.int .i64 i1))], [(38000, .arr 1 53 64 (fun i => eB (l2.getD i false)))], []⟩ hq ?_; obtain ⟨hc4, h⟩ := Ab h; obtain ⟨x5, hx5, h⟩ := bind_some h; refine B6 [⟨[(38000, 34001)], [], (.bool x5.1), [(34001, .arr 1 53 64 (fun i => eB (x5.2.getD i false)))], []⟩] [] ⟨[(0, (Y9 a_s)), (1, Y7), (5, (.int .i64 i1)), (7, (.int .i64 (a_s.length : Int))), (8, (.int .i64 i1)), (16, (.bool x5.1))], [(38000, .arr 1 53 64 (fun i => eB (x5.2.getD i false)))], []⟩ [(A6 i1 a_s.length), (Spec Try.prog 35 [(.int .i64 (a_s.getD (i1).toNat (0 : Int))), (.vpt 34001 64 0 0)] [(34001, .arr 1 53 64 (fun i => eB (l2.getD i false)))] (.bool x5.1) [(34001, .arr 1 53 64 (fun i => eB (x5.2.getD i false)))])] hq ⟨hc4, (Nh (a_s.getD (i1).toNat (0 : Int)) l2 x5 hx5), trivial⟩ ?_; refine Ak x5.1 (by kernel_rfl) (fun hb => ?_) (fun hb => ?_)
      · replace h := Aq hb h; clear hb; refine Au ⟨[(4, (.int .i64 i1))], [(38000, .arr 1 53 64 (fun i => eB (x5.2.getD i false)))], []⟩ hq ?_; refine Ar ?_; refine Bm ?_; refine A0 ?_; obtain rfl := OI h; exact ⟨(by intro hh; cases hh), rfl, ⟨.inl rfl, [(38000, 38000)], by kernel_rfl⟩⟩
      · replace h := Aw hb h; clear hb; refine Aj ?_; refine Am ?_; refine Aa ?_; refine Lr ⟨[(0, (Y9 a_s)), (1, Y7), (7, (.int .i64 (a_s.length : Int))), (8, (.int .i64 (Bg (i1 + (1 : Int)))))], [(38000, .arr 1 53 64 (fun i => eB (x5.2.getD i false)))], []⟩ hq ?_; obtain rfl := OI h; exact ⟨rfl, Le.refl _ _⟩
    · replace h := Aw hb h; clear hb; refine Bb ?_; refine A2 ?_; obtain rfl := OI h; exact ⟨(by intro hh; cases hh), rfl, Fx [] [38000] hq⟩
  · clear hx6; rcases x6 with l3 | r8
    · rintro e st' ⟨rfl, hl7⟩; refine Ay ?_; refine Aa ?_; refine Af hl7 ?_; refine Au ⟨[(4, (.int .i64 (-1 : Int)))], [(38000, .arr 1 53 64 (fun i => eB (l3.getD i false)))], []⟩ hq ?_; refine Ar ?_; obtain rfl := OI h; exact ⟨.inl rfl, [(38000, 38000)], by kernel_rfl⟩
    · rintro e st' ⟨rfl, hk⟩; refine Bm ?_; refine A0 ?_; obtain rfl := OI h; exact hk
def Cf (a_s : List (Int)) (a_fc0 : List (Bool)) : Option (Bool × List (Bool)) :=
  ((Dd a_s a_fc0).bind fun x1 => (some ((decide (((0 : Int) : Int) ≤ x1.1)), x1.2)))
theorem Gw (a_s : List (Int)) (a_fc0 : List (Bool)) (r : (Bool × List (Bool))) (h : Cf a_s a_fc0 = some r) : Spec Try.prog 34 [(AV.list 1 Ac (0 : Int) a_s .none), (.clo 35 [] [(.vpt 38000 64 0 0)])] [(38000, .arr 1 53 64 (fun i => eB (a_fc0.getD i false)))] (.bool r.1) [(38000, .arr 1 53 64 (fun i => eB (r.2.getD i false)))] := by
  refine Ao (fn := Try.f34) Try.func34 rfl rfl (by kernel_rfl) (fun Γ hn hΓ => ?_); have hq : RgQ Try.prog Γ 9 [(38000, .arr 1 53 64 (fun i => eB (a_fc0.getD i false)))] := ⟨hn, mix, hΓ⟩; unfold Cf at h; refine Au ⟨[(0, (AV.list 1 Ac (0 : Int) a_s .none)), (1, (.clo 35 [] [(.vpt 38000 64 0 0)]))], [(38000, .arr 1 53 64 (fun i => eB (a_fc0.getD i false)))], []⟩ hq ?_; obtain ⟨x1, hx1, h⟩ := bind_some h; refine B6 [⟨[(38000, 38000)], [], (.int .i64 x1.1), [(38000, .arr 1 53 64 (fun i => eB (x1.2.getD i false)))], []⟩] [] ⟨[(4, (.bool (decide (((0 : Int) : Int) ≤ x1.1))))], [(38000, .arr 1 53 64 (fun i => eB (x1.2.getD i false)))], []⟩ [(Spec Try.prog 50 [(AV.list 1 Ac (0 : Int) a_s .none), (.clo 35 [] [(.vpt 38000 64 0 0)])] [(38000, .arr 1 53 64 (fun i => eB (a_fc0.getD i false)))] (.int .i64 x1.1) [(38000, .arr 1 53 64 (fun i => eB (x1.2.getD i false)))])] hq ⟨(Ht a_s a_fc0 x1 hx1), trivial⟩ ?_; refine Ar ?_; obtain rfl := OI h; exact ⟨.inl rfl, [(38000, 38000)], by kernel_rfl⟩
def Cd (a_g : Ap) (x1 : List (Int)) : (Int × List (Bool)) → Option (LR (Int × List (Bool)) (Unit ⊕ Bool)) :=
  fun ((i2, l3) : (Int × List (Bool))) => (bif (decide ((i2 : Int) < (x1.length : Int))) then (Cj (A6 i2 x1.length) (Cj (A6 (x1.getD (i2).toNat (0 : Int)) 64) (Cj (A6 (x1.getD (i2).toNat (0 : Int)) a_g.Succ.length) ((Cf (a_g.Succ.getD ((x1.getD (i2).toNat (0 : Int))).toNat []) (Dm 64 false l3 ((x1.getD (i2).toNat (0 : Int))).toNat true)).bind fun x7 => (bif x7.1 then (some (.done (.inr false))) else (some (.next ((Bg (i2 + (1 : Int))), x7.2)))))))) else (some (.done (.inl ()))))
def Vf (x1 : List (Int)) (i2 : Int) := (x1.getD (i2).toNat (0 : Int))
def Td (x1 : List (Int)) : AV := (AV.list 1 Ac (0 : Int) x1 (.own 8))
def Qo (a_g : Ap) : List AV := [(AV.list 1 eLI64 [] a_g.Succ .none), (AV.list 1 eLI64 [] a_g.Pred .none)]
def Q251 (a_g : Ap) (l3 : List (Bool)) (x1 : List (Int)) : List (Nat × Own) := [(1, .row 26 (Qo a_g)), (4, .arr 1 53 64 (fun i => eB (l3.getD i false))), (8, .tok 1 3 x1.length)]
def Q250 (x1 : List (Int)) (i2 : Int) : List (Nat × AV) := [(1, (.ptr 1 0)), (4, (.vpt 4 64 0 0)), (12, (Td x1)), (13, (.int .i64 (x1.length : Int))), (14, (.int .i64 i2))]
def Q249 (x1 : List (Int)) (i2 : Int) : List (Nat × AV) := [(1, (.ptr 1 0)), (4, (.vpt 4 64 0 0)), (6, (.int .i64 (Vf x1 i2))), (12, (Td x1)), (13, (.int .i64 (x1.length : Int))), (14, (.int .i64 i2))]
def Ec (a_g : Ap) : Option Bool :=
  ((Co a_g (0 : Int)).bind fun x1 => (bif (((x1.length : Int) : Int) == (0 : Int)) then (some false) else ((At (S := (Int × List (Bool))) (X := (Unit ⊕ Bool)) (Cd a_g x1) ((0 : Int), (List.replicate 64 false))).bind (fun x8 => (match x8 with | (.inl _) => (some true) | (.inr r10) => (some r10))))))
theorem Km (a_g : Ap) (r : Bool) (h : Ec a_g = some r) : Spec Try.prog 16 [(.agg (B1 a_g))] [] (.bool r) [] := by
  refine Ao (fn := Try.f16) Try.func16 rfl rfl (by kernel_rfl) (fun Γ hn hΓ => ?_); have hq : RgQ Try.prog Γ 28 [] := ⟨hn, mix, hΓ⟩; unfold Ec at h; refine Au ⟨[(1, (.ptr 1 0))], [(1, .row 26 (Qo a_g))], []⟩ hq ?_; obtain ⟨x1, hx1, h⟩ := bind_some h; refine B6 [⟨[], [(20000, 8)], (AV.list 1 Ac (0 : Int) x1 (.own 20000)), [(20000, .tok 1 3 x1.length)], []⟩] [] ⟨[(1, (.ptr 1 0)), (3, (Td x1))], [(1, .row 26 (Qo a_g)), (8, .tok 1 3 x1.length)], []⟩ [(Spec Try.prog 20 [(.agg (B1 a_g)), (.int .i64 (0 : Int))] [] (AV.list 1 Ac (0 : Int) x1 (.own 20000)) [(20000, .tok 1 3 x1.length)])] hq ⟨(Gi a_g (0 : Int) x1 hx1), trivial⟩ ?_; refine Ae ?_; refine Au ⟨[(1, (.ptr 1 0)), (3, (Td x1)), (11, (.bool (((x1.length : Int) : Int) == (0 : Int))))], [(1, .row 26 (Qo a_g)), (8, .tok 1 3 x1.length)], []⟩ hq ?_; refine Ak (((x1.length : Int) : Int) == (0 : Int)) (by kernel_rfl) (fun hb => ?_) (fun hb => ?_)
  · replace h := Aq hb h; clear hb; refine Au ⟨[(2, (.bool false))], [], []⟩ hq ?_; refine Ar ?_; refine A0 ?_; obtain rfl := OI h; exact ⟨.inl rfl, [], by kernel_rfl⟩
  · replace h := Aw hb h; clear hb; refine Aj ?_; refine Aa ?_; refine B6 [] [(4, (.vpt 4 64 0 0))] ⟨[(1, (.ptr 1 0)), (3, (Td x1)), (4, (.vpt 4 64 0 0))], [(1, .row 26 (Qo a_g)), (4, .arr 1 53 64 (fun i_ => AV.eraseAll (fun n_ => Ca n_ [1, 4, 8]) ((fun i => (((List.replicate 64 [(.bool false)]).flatten).drop (i * 1)).take 1) i_))), (8, .tok 1 3 x1.length)], []⟩ [] hq trivial ?_; refine Af (Cm (st' := ⟨[(1, (.ptr 1 0)), (3, (Td x1)), (4, (.vpt 4 64 0 0))], [(1, .row 26 (Qo a_g)), (4, .arr 1 53 64 (fun i => eB ((List.replicate 64 false).getD i false))), (8, .tok 1 3 x1.length)], []⟩) (TmpsLe.refl _) (.same (.arr (H2 (e := eB) (d := false) (z := [(.bool false)]) rfl rfl rfl) (.same .nil)))) ?_; refine Ae ?_; refine Au ⟨[(1, (.ptr 1 0)), (4, (.vpt 4 64 0 0)), (12, (Td x1)), (13, (.int .i64 (x1.length : Int))), (14, (.int .i64 (0 : Int)))], [(1, .row 26 (Qo a_g)), (4, .arr 1 53 64 (fun i => eB ((List.replicate 64 false).getD i false))), (8, .tok 1 3 x1.length)], []⟩ hq ?_; refine Ah ?_; refine Af (st' := (fun ((i2, l3) : (Int × List (Bool))) => (⟨(Q250 x1 i2), (Q251 a_g l3 x1), []⟩ : St)) ((0 : Int), (List.replicate 64 false))) (Le.refl _ _) ?_; obtain ⟨x8, hx8, h⟩ := bind_some h; refine Bc (fun ((i2, l3) : (Int × List (Bool))) => (⟨(Q250 x1 i2), (Q251 a_g l3 x1), []⟩ : St)) _ (fun (x_ : (Unit ⊕ Bool)) (e : Exit) (st : St) => match x_ with | (.inl _) => e = (.exit 0) ∧ Le Γ st (⟨[], [], []⟩ : St) | (.inr r_) => e = .ret ∧ Jx Try.prog Try.f16.results.toList [] (.bool r_) [] e st) ?_ hx8 ?_
    · rintro ⟨i2, l3⟩ y h; unfold Cd at h; refine Au ⟨[(1, (.ptr 1 0)), (4, (.vpt 4 64 0 0)), (12, (Td x1)), (13, (.int .i64 (x1.length : Int))), (14, (.int .i64 i2)), (15, (.bool (decide ((i2 : Int) < (x1.length : Int)))))], (Q251 a_g l3 x1), []⟩ hq ?_; refine Ae ?_; refine Ak (decide ((i2 : Int) < (x1.length : Int))) (by kernel_rfl) (fun hb => ?_) (fun hb => ?_)
      · replace h := Aq hb h; clear hb; refine Aj ?_; refine Aa ?_; refine Ae ?_; refine Ah ?_; obtain ⟨hc4, h⟩ := Ab h; refine B6 [] [] ⟨(Q249 x1 i2), (Q251 a_g l3 x1), []⟩ [(A6 i2 x1.length)] hq ⟨hc4, trivial⟩ ?_; obtain ⟨hc5, h⟩ := Ab h; refine B6 [] [] ⟨(Q249 x1 i2), [(1, .row 26 (Qo a_g)), (4, .arr 1 53 64 (fun i_ => AV.eraseAll (fun n_ => Ca n_ [1, 4, 8]) ((Fc (fun i => eB (l3.getD i false)) ((Vf x1 i2)).toNat 0 [(.bool true)]) i_))), (8, .tok 1 3 x1.length)], []⟩ [(A6 (Vf x1 i2) 64), (64 = 64)] hq ⟨hc5, rfl, trivial⟩ ?_; refine Af (Cm (st' := ⟨(Q249 x1 i2), [(1, .row 26 (Qo a_g)), (4, .arr 1 53 64 (fun i => eB ((Dm 64 false l3 ((Vf x1 i2)).toNat true).getD i false))), (8, .tok 1 3 x1.length)], []⟩) (TmpsLe.refl _) (.same (.arr (Bi rfl (fun k_ hk_ => (congrArg (AV.eraseAll (fun n_ => Ca n_ [1, 4, 8])) ((E9 (fun _ _ => rfl) (Dv hc5) rfl) k_ hk_)).trans rfl)) (.same .nil)))) ?_; obtain ⟨hc6, h⟩ := Ab h; obtain ⟨x7, hx7, h⟩ := bind_some h; refine B6 [⟨[(4, 38000)], [], (.bool x7.1), [(38000, .arr 1 53 64 (fun i => eB (x7.2.getD i false)))], []⟩] [] ⟨[(1, (.ptr 1 0)), (4, (.vpt 4 64 0 0)), (12, (Td x1)), (13, (.int .i64 (x1.length : Int))), (14, (.int .i64 i2)), (26, (.bool x7.1))], [(1, .row 26 (Qo a_g)), (4, .arr 1 53 64 (fun i => eB (x7.2.getD i false))), (8, .tok 1 3 x1.length)], []⟩ [(A6 (Vf x1 i2) a_g.Succ.length), (Spec Try.prog 34 [(AV.list 1 Ac (0 : Int) (a_g.Succ.getD ((Vf x1 i2)).toNat []) .none), (.clo 35 [] [(.vpt 38000 64 0 0)])] [(38000, .arr 1 53 64 (fun i => eB ((Dm 64 false l3 ((Vf x1 i2)).toNat true).getD i false)))] (.bool x7.1) [(38000, .arr 1 53 64 (fun i => eB (x7.2.getD i false)))])] hq ⟨hc6, (Gw (a_g.Succ.getD ((Vf x1 i2)).toNat []) (Dm 64 false l3 ((Vf x1 i2)).toNat true) x7 hx7), trivial⟩ ?_; refine Ak x7.1 (by kernel_rfl) (fun hb => ?_) (fun hb => ?_)
        · replace h := Aq hb h; clear hb; refine Au ⟨[(2, (.bool false))], [], []⟩ hq ?_; refine Ar ?_; refine Bm ?_; refine A0 ?_; obtain rfl := OI h; exact ⟨(by intro hh; cases hh), rfl, ⟨.inl rfl, [], by kernel_rfl⟩⟩
        · replace h := Aw hb h; clear hb; refine Aj ?_; refine Am ?_; refine Aa ?_; refine Lr ⟨[(1, (.ptr 1 0)), (4, (.vpt 4 64 0 0)), (12, (Td x1)), (13, (.int .i64 (x1.length : Int))), (14, (.int .i64 (Bg (i2 + (1 : Int)))))], [(1, .row 26 (Qo a_g)), (4, .arr 1 53 64 (fun i => eB (x7.2.getD i false))), (8, .tok 1 3 x1.length)], []⟩ hq ?_; obtain rfl := OI h; exact ⟨rfl, Le.refl _ _⟩
      · replace h := Aw hb h; clear hb; refine Bb ?_; refine A2 ?_; obtain rfl := OI h; exact ⟨(by intro hh; cases hh), rfl, Fx [] [] hq⟩
    · clear hx8; rcases x8 with _ | r10
      · rintro e st' ⟨rfl, hl9⟩; refine Ay ?_; refine Aa ?_; refine Af hl9 ?_; refine Au ⟨[(2, (.bool true))], [], []⟩ hq ?_; refine Ar ?_; obtain rfl := OI h; exact ⟨.inl rfl, [], by kernel_rfl⟩
      · rintro e st' ⟨rfl, hk⟩; refine Bm ?_; refine A0 ?_; obtain rfl := OI h; exact hk
def D9 (a_g : Ap) : Option Bool :=
  ((Gd a_g).bind fun x1 => (bif (!x1) then (some false) else ((Dw a_g).bind fun x2 => ((Fl a_g.Succ x2).bind fun x3 => ((Ej x3).bind fun x4 => ((Ec x4.1).bind fun x5 => (some x5)))))))
theorem Oe (a_g : Ap) (r : Bool) (h : D9 a_g = some r) : Spec Try.prog 13 [(.agg (B1 a_g))] [] (.bool r) [] := by
  refine Ao (fn := Try.f13) Try.func13 rfl rfl (by kernel_rfl) (fun Γ hn hΓ => ?_); have hq : RgQ Try.prog Γ 19 [] := ⟨hn, mix, hΓ⟩; unfold D9 at h; refine Au ⟨[(1, (.ptr 1 0))], [(1, .row 26 [(AV.list 1 eLI64 [] a_g.Succ .none), (AV.list 1 eLI64 [] a_g.Pred .none)])], []⟩ hq ?_; refine Ae ?_; obtain ⟨x1, hx1, h⟩ := bind_some h; refine B6 [⟨[], [], (.bool x1), [], []⟩] [] ⟨[(1, (.ptr 1 0)), (7, (.bool (!x1)))], [(1, .row 26 [(AV.list 1 eLI64 [] a_g.Succ .none), (AV.list 1 eLI64 [] a_g.Pred .none)])], []⟩ [(Spec Try.prog 32 [(.agg (B1 a_g))] [] (.bool x1) [])] hq ⟨(Nj a_g x1 hx1), trivial⟩ ?_; refine Ak (!x1) (by kernel_rfl) (fun hb => ?_) (fun hb => ?_)
  · replace h := Aq hb h; clear hb; refine Au ⟨[(2, (.bool false))], [], []⟩ hq ?_; refine Ar ?_; refine A0 ?_; obtain rfl := OI h; exact ⟨.inl rfl, [], by kernel_rfl⟩
  · replace h := Aw hb h; clear hb; refine Aj ?_; refine Aa ?_; obtain ⟨x2, hx2, h⟩ := bind_some h; obtain ⟨x3, hx3, h⟩ := bind_some h; obtain ⟨x4, hx4, h⟩ := bind_some h; refine B6 [⟨[], [(20000, 12)], (AV.list 2 Ce ((0 : Int), (0 : Int)) x2 (.own 20000)), [(20000, .tok 2 45 x2.length)], []⟩, ⟨[], [(20000, 13)], (AV.list 1 eLI64 [] x3 (.own 20000)), [(20000, .tok 1 36 x3.length)], []⟩, ⟨[], [], (.tuple [(.agg (B1 x4.1)), (.int .i64 x4.2)]), [], []⟩] [] ⟨[(3, (.ptr 3 0))], [(3, .row 26 [(AV.list 1 eLI64 [] x4.1.Succ .none), (AV.list 1 eLI64 [] x4.1.Pred .none)])], []⟩ [(Spec Try.prog 18 [(.agg (B1 a_g))] [] (AV.list 2 Ce ((0 : Int), (0 : Int)) x2 (.own 20000)) [(20000, .tok 2 45 x2.length)]), (Spec Try.prog 33 [(AV.list 1 eLI64 [] a_g.Succ .none), (AV.list 2 Ce ((0 : Int), (0 : Int)) x2 .none)] [] (AV.list 1 eLI64 [] x3 (.own 20000)) [(20000, .tok 1 36 x3.length)]), (Spec Try.prog 10 [(AV.list 1 eLI64 [] x3 .none)] [] (.tuple [(.agg (B1 x4.1)), (.int .i64 x4.2)]) [])] hq ⟨(Hb a_g x2 hx2), (Px a_g.Succ x2 x3 hx3), (Jd x3 x4 hx4), trivial⟩ ?_; obtain ⟨x5, hx5, h⟩ := bind_some h; refine B6 [⟨[], [], (.bool x5), [], []⟩] [] ⟨[(2, (.bool x5))], [], []⟩ [(Spec Try.prog 16 [(.agg (B1 x4.1))] [] (.bool x5) [])] hq ⟨(Km x4.1 x5 hx5), trivial⟩ ?_; refine Ar ?_; obtain rfl := OI h; exact ⟨.inl rfl, [], by kernel_rfl⟩
def Q260 (x8 : Int) := ((x8 : Int) == (1 : Int))
def Q261 (x9 : Int) := ((x9 : Int) == (0 : Int))
def Q264 (x1 : (Ap × Int)) := (((x1.2 : Int) == (0 : Int)) == true)
def Q265 := ([(1 : Int), (2 : Int)] : List (Int))
def Q262 : AV := (AV.list 1 Ac (0 : Int) ([(1 : Int)] : List (Int)) .exact)
def Yy (x1 : (Ap × Int)) (x2 : List (A1)) := (bif (bif ((x1.2 : Int) == (0 : Int)) then (((x2.length : Int) : Int) == (1 : Int)) else false) then (((x2.getD ((0 : Int)).toNat (default : A1)).Head : Int) == (1 : Int)) else false)
def Sq (x1 : (Ap × Int)) (x2 : List (A1)) (x6 : Bool) (x3 : List ((Int × Int))) := (bif (bif (bif (Yy x1 x2) then x6 else false) then (((x3.length : Int) : Int) == (1 : Int)) else false) then ((((x3.getD ((0 : Int)).toNat ((0 : Int), (0 : Int))).1 : Int) == (2 : Int)) && ((((x3.getD ((0 : Int)).toNat ((0 : Int), (0 : Int))).2 : Int) == (1 : Int)) && true)) else false)
def Q268 (x1 : (Ap × Int)) (x2 : List (A1)) (x6 : Bool) (x3 : List ((Int × Int))) (x8 : Int) := ((bif (Sq x1 x2 x6 x3) then (Q260 x8) else false) == true)
def Q263 (x1 : (Ap × Int)) : List AV := [(AV.list 1 eLI64 [] x1.1.Succ .none), (AV.list 1 eLI64 [] x1.1.Pred .none)]
def O5 (x1 : (Ap × Int)) (x2 : List (A1)) (x6 : Bool) (x3 : List ((Int × Int))) (x8 : Int) (x9 : Int) := (bif (bif (Sq x1 x2 x6 x3) then (Q260 x8) else false) then (Q261 x9) else false)
def S4 (x1 : (Ap × Int)) (x2 : List (A1)) := ((bif ((x1.2 : Int) == (0 : Int)) then (((x2.length : Int) : Int) == (1 : Int)) else false) == true)
def Q259 := ([([(1 : Int)] : List (Int)), ([(2 : Int), (3 : Int)] : List (Int)), ([(1 : Int)] : List (Int)), ([] : List Int)] : List (List (Int)))
def Ng (x1 : (Ap × Int)) (x2 : List (A1)) := ((Yy x1 x2) == true)
def Q257 (x1 : (Ap × Int)) (x2 : List (A1)) (x6 : Bool) := ((bif (Yy x1 x2) then x6 else false) == true)
def S6 (x1 : (Ap × Int)) (x2 : List (A1)) (x6 : Bool) (x3 : List ((Int × Int))) := ((bif (bif (Yy x1 x2) then x6 else false) then (((x3.length : Int) : Int) == (1 : Int)) else false) == true)
def Dn  : Option Bool :=
  ((Ej ([([(1 : Int)] : List (Int)), ([(2 : Int), (3 : Int)] : List (Int)), ([(1 : Int)] : List (Int)), ([] : List Int)] : List (List (Int)))).bind fun x1 => ((Fg x1.1).bind fun x2 => ((Dw x1.1).bind fun x3 => (Cj (((bif ((x1.2 : Int) == (0 : Int)) then (((x2.length : Int) : Int) == (1 : Int)) else false) == true) = true → (A6 (0 : Int) x2.length)) (Cj (((bif (bif ((x1.2 : Int) == (0 : Int)) then (((x2.length : Int) : Int) == (1 : Int)) else false) then (((x2.getD ((0 : Int)).toNat (default : A1)).Head : Int) == (1 : Int)) else false) == true) = true → (A6 (0 : Int) x2.length)) ((bif ((bif (bif ((x1.2 : Int) == (0 : Int)) then (((x2.length : Int) : Int) == (1 : Int)) else false) then (((x2.getD ((0 : Int)).toNat (default : A1)).Head : Int) == (1 : Int)) else false) == true) then Cs ((x2.getD ((0 : Int)).toNat (default : A1)).Body) ([(1 : Int), (2 : Int)] : List (Int)) else some false).bind fun x6 => (Cj (((bif (bif (bif (bif ((x1.2 : Int) == (0 : Int)) then (((x2.length : Int) : Int) == (1 : Int)) else false) then (((x2.getD ((0 : Int)).toNat (default : A1)).Head : Int) == (1 : Int)) else false) then x6 else false) then (((x3.length : Int) : Int) == (1 : Int)) else false) == true) = true → (A6 (0 : Int) x3.length)) ((bif ((bif (bif (bif (bif (bif ((x1.2 : Int) == (0 : Int)) then (((x2.length : Int) : Int) == (1 : Int)) else false) then (((x2.getD ((0 : Int)).toNat (default : A1)).Head : Int) == (1 : Int)) else false) then x6 else false) then (((x3.length : Int) : Int) == (1 : Int)) else false) then ((((x3.getD ((0 : Int)).toNat ((0 : Int), (0 : Int))).1 : Int) == (2 : Int)) && ((((x3.getD ((0 : Int)).toNat ((0 : Int), (0 : Int))).2 : Int) == (1 : Int)) && true)) else false) == true) then Em x1.1 (2 : Int) else some (0 : Int)).bind fun x8 => ((bif ((bif (bif (bif (bif (bif (bif ((x1.2 : Int) == (0 : Int)) then (((x2.length : Int) : Int) == (1 : Int)) else false) then (((x2.getD ((0 : Int)).toNat (default : A1)).Head : Int) == (1 : Int)) else false) then x6 else false) then (((x3.length : Int) : Int) == (1 : Int)) else false) then ((((x3.getD ((0 : Int)).toNat ((0 : Int), (0 : Int))).1 : Int) == (2 : Int)) && ((((x3.getD ((0 : Int)).toNat ((0 : Int), (0 : Int))).2 : Int) == (1 : Int)) && true)) else false) then ((x8 : Int) == (1 : Int)) else false) == true) then Em x1.1 (3 : Int) else some (0 : Int)).bind fun x9 => ((bif ((bif (bif (bif (bif (bif (bif (bif ((x1.2 : Int) == (0 : Int)) then (((x2.length : Int) : Int) == (1 : Int)) else false) then (((x2.getD ((0 : Int)).toNat (default : A1)).Head : Int) == (1 : Int)) else false) then x6 else false) then (((x3.length : Int) : Int) == (1 : Int)) else false) then ((((x3.getD ((0 : Int)).toNat ((0 : Int), (0 : Int))).1 : Int) == (2 : Int)) && ((((x3.getD ((0 : Int)).toNat ((0 : Int), (0 : Int))).2 : Int) == (1 : Int)) && true)) else false) then ((x8 : Int) == (1 : Int)) else false) then ((x9 : Int) == (0 : Int)) else false) == true) then D9 x1.1 else some false).bind fun x10 => ((bif ((bif (bif (bif (bif (bif (bif (bif (bif ((x1.2 : Int) == (0 : Int)) then (((x2.length : Int) : Int) == (1 : Int)) else false) then (((x2.getD ((0 : Int)).toNat (default : A1)).Head : Int) == (1 : Int)) else false) then x6 else false) then (((x3.length : Int) : Int) == (1 : Int)) else false) then ((((x3.getD ((0 : Int)).toNat ((0 : Int), (0 : Int))).1 : Int) == (2 : Int)) && ((((x3.getD ((0 : Int)).toNat ((0 : Int), (0 : Int))).2 : Int) == (1 : Int)) && true)) else false) then ((x8 : Int) == (1 : Int)) else false) then ((x9 : Int) == (0 : Int)) else false) then x10 else false) == true) then Ec x1.1 else some false).bind fun x11 => (some (bif (bif (bif (bif (bif (bif (bif (bif (bif ((x1.2 : Int) == (0 : Int)) then (((x2.length : Int) : Int) == (1 : Int)) else false) then (((x2.getD ((0 : Int)).toNat (default : A1)).Head : Int) == (1 : Int)) else false) then x6 else false) then (((x3.length : Int) : Int) == (1 : Int)) else false) then ((((x3.getD ((0 : Int)).toNat ((0 : Int), (0 : Int))).1 : Int) == (2 : Int)) && ((((x3.getD ((0 : Int)).toNat ((0 : Int), (0 : Int))).2 : Int) == (1 : Int)) && true)) else false) then ((x8 : Int) == (1 : Int)) else false) then ((x9 : Int) == (0 : Int)) else false) then x10 else false) then (!x11) else false)))))))))))))
theorem Jw  (r : Bool) (h : Dn = some r) : Spec Try.prog 8 [] [] (.bool r) [] := by
  refine Ao (fn := Try.f8) Try.func8 rfl rfl (by kernel_rfl) (fun Γ hn hΓ => ?_); have hq : RgQ Try.prog Γ 70 [] := ⟨hn, mix, hΓ⟩; unfold Dn at h; refine Au ⟨[], [], []⟩ hq ?_; obtain ⟨x1, hx1, h⟩ := bind_some h; refine B6 [⟨[], [], (.tuple [(.agg (B1 x1.1)), (.int .i64 x1.2)]), [], []⟩] [(6, Q262), (7, (AV.list 1 Ac (0 : Int) ([(2 : Int), (3 : Int)] : List (Int)) .exact)), (8, Q262), (9, (AV.list 1 eLI64 [] Q259 .exact))] ⟨[(1, (.ptr 1 0)), (2, (.int .i64 x1.2))], [(1, .row 26 (Q263 x1))], []⟩ [(AVle (.slice 1 1 (fun i => ([[(.int .i64 (1 : Int))]] : List (List AV)).getD i []) .exact) Q262), (AVle (.slice 1 2 (fun i => ([[(.int .i64 (2 : Int))], [(.int .i64 (3 : Int))]] : List (List AV)).getD i []) .exact) (AV.list 1 Ac (0 : Int) ([(2 : Int), (3 : Int)] : List (Int)) .exact)), (AVle (.slice 1 1 (fun i => ([[(.int .i64 (1 : Int))]] : List (List AV)).getD i []) .exact) Q262), (AVle (.slice 1 4 (fun i => ([[(AV.list 1 Ac (0 : Int) ([(1 : Int)] : List (Int)) .none)], [(AV.list 1 Ac (0 : Int) ([(2 : Int), (3 : Int)] : List (Int)) .none)], [(AV.list 1 Ac (0 : Int) ([(1 : Int)] : List (Int)) .none)], [(.slice 0 0 (fun _ => []) .none)]] : List (List AV)).getD i []) .exact) (AV.list 1 eLI64 [] Q259 .exact)), (Spec Try.prog 10 [(AV.list 1 eLI64 [] Q259 .none)] [] (.tuple [(.agg (B1 x1.1)), (.int .i64 x1.2)]) [])] hq ⟨(Fj rfl (fun i hi => E2 (e := Ac) (d := (0 : Int)) ([(1 : Int)] : List (Int)) i hi)), (Fj rfl (fun i hi => E2 (e := Ac) (d := (0 : Int)) ([(2 : Int), (3 : Int)] : List (Int)) i hi)), (Fj rfl (fun i hi => E2 (e := Ac) (d := (0 : Int)) ([(1 : Int)] : List (Int)) i hi)), (av_litL (e := eLI64) (d := []) rfl (Nt (.cons (AVle.refl _) .nil) (Nt (.cons (AVle.refl _) .nil) (Nt (.cons (AVle.refl _) .nil) (Nt (.cons av_nil0 .nil) (lit_nil rfl))))) (fun _ => rfl)), (Jd Q259 x1 hx1), trivial⟩ ?_; obtain ⟨x2, hx2, h⟩ := bind_some h; refine B6 [⟨[], [(20000, 14)], (AV.list 2 Dq (default : A1) x2 (.own 20000)), [(20000, .tok 2 38 x2.length)], []⟩] [] ⟨[(1, (.ptr 1 0)), (2, (.int .i64 x1.2)), (3, (AV.list 2 Dq (default : A1) x2 (.own 14)))], [(1, .row 26 (Q263 x1)), (14, .tok 2 38 x2.length)], []⟩ [(Spec Try.prog 12 [(.agg (B1 x1.1))] [] (AV.list 2 Dq (default : A1) x2 (.own 20000)) [(20000, .tok 2 38 x2.length)])] hq ⟨(Lw x1.1 x2 hx2), trivial⟩ ?_; obtain ⟨x3, hx3, h⟩ := bind_some h; refine B6 [⟨[], [(20000, 16)], (AV.list 2 Ce ((0 : Int), (0 : Int)) x3 (.own 20000)), [(20000, .tok 2 45 x3.length)], []⟩] [] ⟨[(1, (.ptr 1 0)), (2, (.int .i64 x1.2)), (3, (AV.list 2 Dq (default : A1) x2 (.own 14))), (4, (AV.list 2 Ce ((0 : Int), (0 : Int)) x3 (.own 16)))], [(1, .row 26 (Q263 x1)), (14, .tok 2 38 x2.length), (16, .tok 2 45 x3.length)], []⟩ [(Spec Try.prog 18 [(.agg (B1 x1.1))] [] (AV.list 2 Ce ((0 : Int), (0 : Int)) x3 (.own 20000)) [(20000, .tok 2 45 x3.length)])] hq ⟨(Hb x1.1 x3 hx3), trivial⟩ ?_; obtain ⟨hc4, h⟩ := Ab h; obtain ⟨hc5, h⟩ := Ab h; obtain ⟨x6, hx6, h⟩ := bind_some h; obtain ⟨hc7, h⟩ := Ab h; obtain ⟨x8, hx8, h⟩ := bind_some h; obtain ⟨x9, hx9, h⟩ := bind_some h; obtain ⟨x10, hx10, h⟩ := bind_some h; obtain ⟨x11, hx11, h⟩ := bind_some h; refine B6 [⟨[], [], (.bool x6), [], []⟩, ⟨[], [], (.int .i64 x8), [], []⟩, ⟨[], [], (.int .i64 x9), [], []⟩, ⟨[], [], (.bool x10), [], []⟩, ⟨[], [], (.bool x11), [], []⟩] [(36, (AV.list 1 Ac (0 : Int) Q265 .exact))] ⟨[(0, (.bool (bif (bif (O5 x1 x2 x6 x3 x8 x9) then x10 else false) then (!x11) else false)))], [], []⟩ [((Q264 x1) = true → (Q264 x1) = true), ((Q264 x1) = true → (Q264 x1) = true), (((x1.2 : Int) == (0 : Int)) = true → (Q264 x1) = true), ((S4 x1 x2) = true → (S4 x1 x2) = true), ((S4 x1 x2) = true → (A6 (0 : Int) x2.length)), ((S4 x1 x2) = true → (S4 x1 x2) = true), ((S4 x1 x2) = true → (S4 x1 x2) = true), ((S4 x1 x2) = true → (S4 x1 x2) = true), ((bif ((x1.2 : Int) == (0 : Int)) then (((x2.length : Int) : Int) == (1 : Int)) else false) = true → (S4 x1 x2) = true), ((Ng x1 x2) = true → (Ng x1 x2) = true), ((Ng x1 x2) = true → (A6 (0 : Int) x2.length)), ((Ng x1 x2) = true → (Ng x1 x2) = true), ((Ng x1 x2) = true → (Ng x1 x2) = true), ((Ng x1 x2) = true → (AVle (.slice 1 2 (fun i => ([[(.int .i64 (1 : Int))], [(.int .i64 (2 : Int))]] : List (List AV)).getD i []) .exact) (AV.list 1 Ac (0 : Int) Q265 .exact))), ((Ng x1 x2) = true → (Ng x1 x2) = true), ((Ng x1 x2) = true → (Ng x1 x2) = true), ((Ng x1 x2) = true → (Spec Try.prog 21 [(AV.list 1 Ac (0 : Int) (x2.getD ((0 : Int)).toNat (default : A1)).Body .none), (AV.list 1 Ac (0 : Int) Q265 .none)] [] (.bool x6) [])), ((Yy x1 x2) = true → (Ng x1 x2) = true), ((Q257 x1 x2 x6) = true → (Q257 x1 x2 x6) = true), ((Q257 x1 x2 x6) = true → (Q257 x1 x2 x6) = true), ((bif (Yy x1 x2) then x6 else false) = true → (Q257 x1 x2 x6) = true), ((S6 x1 x2 x6 x3) = true → (S6 x1 x2 x6 x3) = true), ((S6 x1 x2 x6 x3) = true → (A6 (0 : Int) x3.length)), ((S6 x1 x2 x6 x3) = true → (S6 x1 x2 x6 x3) = true), ((S6 x1 x2 x6 x3) = true → (S6 x1 x2 x6 x3) = true), ((S6 x1 x2 x6 x3) = true → (S6 x1 x2 x6 x3) = true), ((bif (bif (Yy x1 x2) then x6 else false) then (((x3.length : Int) : Int) == (1 : Int)) else false) = true → (S6 x1 x2 x6 x3) = true), (((Sq x1 x2 x6 x3) == true) = true → ((Sq x1 x2 x6 x3) == true) = true), (((Sq x1 x2 x6 x3) == true) = true → (Spec Try.prog 19 [(.agg (B1 x1.1)), (.int .i64 (2 : Int))] [] (.int .i64 x8) [])), (((Sq x1 x2 x6 x3) == true) = true → ((Sq x1 x2 x6 x3) == true) = true), ((Sq x1 x2 x6 x3) = true → ((Sq x1 x2 x6 x3) == true) = true), ((Q268 x1 x2 x6 x3 x8) = true → (Q268 x1 x2 x6 x3 x8) = true), ((Q268 x1 x2 x6 x3 x8) = true → (Spec Try.prog 19 [(.agg (B1 x1.1)), (.int .i64 (3 : Int))] [] (.int .i64 x9) [])), ((Q268 x1 x2 x6 x3 x8) = true → (Q268 x1 x2 x6 x3 x8) = true), ((bif (Sq x1 x2 x6 x3) then (Q260 x8) else false) = true → (Q268 x1 x2 x6 x3 x8) = true), (((O5 x1 x2 x6 x3 x8 x9) == true) = true → ((O5 x1 x2 x6 x3 x8 x9) == true) = true), (((O5 x1 x2 x6 x3 x8 x9) == true) = true → (Spec Try.prog 13 [(.agg (B1 x1.1))] [] (.bool x10) [])), ((O5 x1 x2 x6 x3 x8 x9) = true → ((O5 x1 x2 x6 x3 x8 x9) == true) = true), (((bif (O5 x1 x2 x6 x3 x8 x9) then x10 else false) == true) = true → ((bif (O5 x1 x2 x6 x3 x8 x9) then x10 else false) == true) = true), (((bif (O5 x1 x2 x6 x3 x8 x9) then x10 else false) == true) = true → (Spec Try.prog 16 [(.agg (B1 x1.1))] [] (.bool x11) [])), (((bif (O5 x1 x2 x6 x3 x8 x9) then x10 else false) == true) = true → ((bif (O5 x1 x2 x6 x3 x8 x9) then x10 else false) == true) = true), ((bif (O5 x1 x2 x6 x3 x8 x9) then x10 else false) = true → ((bif (O5 x1 x2 x6 x3 x8 x9) then x10 else false) == true) = true)] hq ⟨(fun hg => hg), (fun hg => hg), gT, (fun hg => hg), (fun hg => (hc4 hg)), (fun hg => hg), (fun hg => hg), (fun hg => hg), gT, (fun hg => hg), (fun hg => (hc5 hg)), (fun hg => hg), (fun hg => hg), (fun hg => (Fj rfl (fun i hi => E2 (e := Ac) (d := (0 : Int)) Q265 i hi))), (fun hg => hg), (fun hg => hg), (fun hg => (Ks ((x2.getD ((0 : Int)).toNat (default : A1)).Body) Q265 x6 (Aq hg hx6))), gT, (fun hg => hg), (fun hg => hg), gT, (fun hg => hg), (fun hg => (hc7 hg)), (fun hg => hg), (fun hg => hg), (fun hg => hg), gT, (fun hg => hg), (fun hg => (I7 x1.1 (2 : Int) x8 (Aq hg hx8))), (fun hg => hg), gT, (fun hg => hg), (fun hg => (I7 x1.1 (3 : Int) x9 (Aq hg hx9))), (fun hg => hg), gT, (fun hg => hg), (fun hg => (Oe x1.1 x10 (Aq hg hx10))), gT, (fun hg => hg), (fun hg => (Km x1.1 x11 (Aq hg hx11))), (fun hg => hg), gT, trivial⟩ ?_; refine Ar ?_; obtain rfl := OI h; exact ⟨.inl rfl, [], by kernel_rfl⟩
end
end Go.Proofs.Ytjpacggpipflcaa

namespace Go.Proofs.Ytjpacggpipflcaa
noncomputable section
open Go Go.RowKit
set_option linter.unusedVariables false
set_option maxRecDepth 100000
set_option maxHeartbeats 2000000
def A4 (a_succ : List (List (Int))) : Int → Option (LR Int (Unit ⊕ Bool)) :=
  fun (i2 : Int) => (bif (decide ((i2 : Int) < (a_succ.length : Int))) then (Cj (A6 i2 a_succ.length) (bif (decide (((100 : Int) : Int) < ((a_succ.getD (i2).toNat []).length : Int))) then (some (.done (.inr true))) else (some (.next (Bg (i2 + (1 : Int))))))) else (some (.done (.inl ()))))
def Cp (x7 : List (A1)) (x8 : List ((Int × Int))) (i9 : Int) (i11 : Int) : (Bool × Int) → Option (LR (Bool × Int) Bool) :=
  fun ((b13, i14) : (Bool × Int)) => (Cj (A6 i11 x7.length) (bif (decide ((i14 : Int) < (((x7.getD (i11).toNat (default : A1)).Body).length : Int))) then (Cj ((b13 == false) = true → (A6 i11 x7.length)) (Cj ((b13 == false) = true → (A6 i14 ((x7.getD (i11).toNat (default : A1)).Body).length)) (Cj ((b13 == false) = true → (A6 i9 x8.length)) (some (.next ((bif b13 then true else (((((x7.getD (i11).toNat (default : A1)).Body).getD (i14).toNat (0 : Int)) : Int) == (x8.getD (i9).toNat ((0 : Int), (0 : Int))).1)), (Bg (i14 + (1 : Int))))))))) else (some (.done b13))))
def B4 (x7 : List (A1)) (x8 : List ((Int × Int))) (i9 : Int) : (Bool × Int) → Option (LR (Bool × Int) Bool) :=
  fun ((b10, i11) : (Bool × Int)) => (bif (decide ((i11 : Int) < (x7.length : Int))) then ((At (S := (Bool × Int)) (X := Bool) (Cp x7 x8 i9 i11) (false, (0 : Int))).bind (fun x20 => ((Cj ((b10 == false) = true → (A6 i11 x7.length)) (Cj ((b10 == false) = true → (A6 i9 x8.length)) (some (.next ((bif b10 then true else (bif (((x7.getD (i11).toNat (default : A1)).Head : Int) == (x8.getD (i9).toNat ((0 : Int), (0 : Int))).2) then x20 else false)), (Bg (i11 + (1 : Int))))))))))) else (some (.done b10)))
def Bj (x7 : List (A1)) (x8 : List ((Int × Int))) : Int → Option (LR Int (Unit ⊕ Bool)) :=
  fun (i9 : Int) => (bif (decide ((i9 : Int) < (x8.length : Int))) then ((At (S := (Bool × Int)) (X := Bool) (B4 x7 x8 i9) (false, (0 : Int))).bind (fun x24 => ((bif (!x24) then (some (.done (.inr false))) else (some (.next (Bg (i9 + (1 : Int))))))))) else (some (.done (.inl ()))))
def Bk (a_succ : List (List (Int))) (x6 : (Ap × Int)) (x28 : List (Int)) (i29 : Int) : Int → Option (LR Int (Unit ⊕ Bool)) :=
  fun (i31 : Int) => (Cj (A6 (x28.getD (i29).toNat (0 : Int)) a_succ.length) (bif (decide ((i31 : Int) < ((a_succ.getD ((x28.getD (i29).toNat (0 : Int))).toNat []).length : Int))) then (Cj (A6 (x28.getD (i29).toNat (0 : Int)) a_succ.length) (Cj (A6 i31 (a_succ.getD ((x28.getD (i29).toNat (0 : Int))).toNat []).length) ((bif (((((a_succ.getD ((x28.getD (i29).toNat (0 : Int))).toNat []).getD (i31).toNat (0 : Int)) : Int) == (x28.getD (i29).toNat (0 : Int))) == true) then Em x6.1 (x28.getD (i29).toNat (0 : Int)) else some (0 : Int)).bind fun x35 => (bif (bif ((((a_succ.getD ((x28.getD (i29).toNat (0 : Int))).toNat []).getD (i31).toNat (0 : Int)) : Int) == (x28.getD (i29).toNat (0 : Int))) then (decide ((x35 : Int) < (1 : Int))) else false) then (some (.done (.inr false))) else (some (.next (Bg (i31 + (1 : Int))))))))) else (some (.done (.inl ())))))
def Bl (a_succ : List (List (Int))) (x6 : (Ap × Int)) (x28 : List (Int)) : Int → Option (LR Int (Unit ⊕ Bool)) :=
  fun (i29 : Int) => (bif (decide ((i29 : Int) < (x28.length : Int))) then (Cj (A6 i29 x28.length) ((At (S := Int) (X := (Unit ⊕ Bool)) (Bk a_succ x6 x28 i29) (0 : Int)).bind (fun x36 => (match x36 with | (.inl _) => (some (.next (Bg (i29 + (1 : Int))))) | (.inr r38) => (some (.done (.inr r38))))))) else (some (.done (.inl ()))))
def D0 (a_succ : List (List (Int))) : AV := (AV.list 1 eLI64 [] a_succ .none)
def Ns (x28 : List (Int)) : AV := (AV.list 1 Ac (0 : Int) x28 (.own 104))
def Xy (x28 : List (Int)) (i29 : Int) : AV := (.int .i64 (x28.getD (i29).toNat (0 : Int)))
def Q407 (x7 : List (A1)) (i11 : Int) := ((x7.getD (i11).toNat (default : A1)).Body)
def Hz (x7 : List (A1)) : AV := (AV.list 2 Dq (default : A1) x7 (.own 42))
def H9 (x8 : List ((Int × Int))) : AV := (AV.list 2 Ce ((0 : Int), (0 : Int)) x8 (.own 44))
def Q406 (x6 : (Ap × Int)) : List (Nat × Own) := [(4, .row 26 [(AV.list 1 eLI64 [] x6.1.Succ .none), (AV.list 1 eLI64 [] x6.1.Pred .none)])]
def Q404 (x7 : List (A1)) (i11 : Int) (x8 : List ((Int × Int))) (i9 : Int) := (((x7.getD (i11).toNat (default : A1)).Head : Int) == (x8.getD (i9).toNat ((0 : Int), (0 : Int))).2)
def Nr (x6 : (Ap × Int)) (x28 : List (Int)) : List (Nat × Own) := [(4, .row 26 [(AV.list 1 eLI64 [] x6.1.Succ .none), (AV.list 1 eLI64 [] x6.1.Pred .none)]), (104, .tok 1 3 x28.length)]
def Rx (a_succ : List (List (Int))) (x28 : List (Int)) (i29 : Int) (i31 : Int) := ((((a_succ.getD ((x28.getD (i29).toNat (0 : Int))).toNat []).getD (i31).toNat (0 : Int)) : Int) == (x28.getD (i29).toNat (0 : Int)))
def Ih (x6 : (Ap × Int)) (x7 : List (A1)) (x8 : List ((Int × Int))) : List (Nat × Own) := [(4, .row 26 [(AV.list 1 eLI64 [] x6.1.Succ .none), (AV.list 1 eLI64 [] x6.1.Pred .none)]), (42, .tok 2 38 x7.length), (44, .tok 2 45 x8.length)]
def Dy (a_succ : List (List (Int))) : Option Bool :=
  ((Dn).bind fun x1 => (bif (!x1) then (some false) else (bif (decide (((16 : Int) : Int) < (a_succ.length : Int))) then (some true) else ((At (S := Int) (X := (Unit ⊕ Bool)) (A4 a_succ) (0 : Int)).bind (fun x4 => (match x4 with | (.inl _) => ((Ej a_succ).bind fun x6 => (bif ((x6.2 : Int) != (0 : Int)) then (some true) else ((Fg x6.1).bind fun x7 => ((Dw x6.1).bind fun x8 => ((At (S := Int) (X := (Unit ⊕ Bool)) (Bj x7 x8) (0 : Int)).bind (fun x26 => (match x26 with | (.inl _) => ((Co x6.1 (0 : Int)).bind fun x28 => ((At (S := Int) (X := (Unit ⊕ Bool)) (Bl a_succ x6 x28) (0 : Int)).bind (fun x39 => (match x39 with | (.inl _) => (some true) | (.inr r41) => (some r41))))) | (.inr r42) => (some r42)))))))) | (.inr r43) => (some r43)))))))
theorem ok_locksteplaw10_LoopSelf (a_succ : List (List (Int))) (r : Bool) (h : Dy a_succ = some r) : Spec Try.prog 6 [(AV.list 1 eLI64 [] a_succ .none)] [] (.bool r) [] := by
  refine Ao (fn := Try.f6) Try.func6 rfl rfl (by kernel_rfl) (fun Γ hn hΓ => ?_); have hq : RgQ Try.prog Γ 139 [] := ⟨hn, mix, hΓ⟩; unfold Dy at h; refine Au ⟨[(0, (D0 a_succ))], [], []⟩ hq ?_; refine Ae ?_; obtain ⟨x1, hx1, h⟩ := bind_some h; refine B6 [⟨[], [], (.bool x1), [], []⟩] [] ⟨[(0, (D0 a_succ)), (18, (.bool (!x1)))], [], []⟩ [(Spec Try.prog 8 [] [] (.bool x1) [])] hq ⟨(Jw  x1 hx1), trivial⟩ ?_; refine Ak (!x1) (by kernel_rfl) (fun hb => ?_) (fun hb => ?_)
  · replace h := Aq hb h; clear hb; refine Au ⟨[(2, (.bool false))], [], []⟩ hq ?_; refine Ar ?_; refine A0 ?_; obtain rfl := OI h; exact ⟨.inl rfl, [], by kernel_rfl⟩
  · replace h := Aw hb h; clear hb; refine Aj ?_; refine Aa ?_; refine Ae ?_; refine Au ⟨[(0, (D0 a_succ)), (21, (.bool (decide (((16 : Int) : Int) < (a_succ.length : Int)))))], [], []⟩ hq ?_; refine Ak (decide (((16 : Int) : Int) < (a_succ.length : Int))) (by kernel_rfl) (fun hb => ?_) (fun hb => ?_)
    · replace h := Aq hb h; clear hb; refine Au ⟨[(2, (.bool true))], [], []⟩ hq ?_; refine Ar ?_; refine A0 ?_; obtain rfl := OI h; exact ⟨.inl rfl, [], by kernel_rfl⟩
    · replace h := Aw hb h; clear hb; refine Aj ?_; refine Aa ?_; refine Ae ?_; refine Au ⟨[(0, (D0 a_succ)), (3, (.int .i64 (0 : Int)))], [], []⟩ hq ?_; refine Ah ?_; refine Af (st' := (fun (i2 : Int) => (⟨[(0, (D0 a_succ)), (3, (.int .i64 i2))], [], []⟩ : St)) (0 : Int)) (Le.refl _ _) ?_; obtain ⟨x4, hx4, h⟩ := bind_some h; refine Bc (fun (i2 : Int) => (⟨[(0, (D0 a_succ)), (3, (.int .i64 i2))], [], []⟩ : St)) _ (fun (x_ : (Unit ⊕ Bool)) (e : Exit) (st : St) => match x_ with | (.inl _) => e = (.exit 0) ∧ Le Γ st (⟨[(0, (D0 a_succ))], [], []⟩ : St) | (.inr r_) => e = .ret ∧ Jx Try.prog Try.f6.results.toList [] (.bool r_) [] e st) ?_ hx4 ?_
      · intro i2 y h; unfold A4 at h; refine Ae ?_; refine Au ⟨[(0, (D0 a_succ)), (3, (.int .i64 i2)), (25, (.bool (decide ((i2 : Int) < (a_succ.length : Int)))))], [], []⟩ hq ?_; refine Ak (decide ((i2 : Int) < (a_succ.length : Int))) (by kernel_rfl) (fun hb => ?_) (fun hb => ?_)
        · replace h := Aq hb h; clear hb; refine Aj ?_; refine Aa ?_; refine Ae ?_; refine Ah ?_; obtain ⟨hc3, h⟩ := Ab h; refine B6 [] [] ⟨[(0, (D0 a_succ)), (3, (.int .i64 i2)), (33, (.bool (decide (((100 : Int) : Int) < ((a_succ.getD (i2).toNat []).length : Int)))))], [], []⟩ [(A6 i2 a_succ.length)] hq ⟨hc3, trivial⟩ ?_; refine Ak (decide (((100 : Int) : Int) < ((a_succ.getD (i2).toNat []).length : Int))) (by kernel_rfl) (fun hb => ?_) (fun hb => ?_)
          · replace h := Aq hb h; clear hb; refine Au ⟨[(2, (.bool true))], [], []⟩ hq ?_; refine Ar ?_; refine Bm ?_; refine A0 ?_; obtain rfl := OI h; exact ⟨(by intro hh; cases hh), rfl, ⟨.inl rfl, [], by kernel_rfl⟩⟩
          · replace h := Aw hb h; clear hb; refine Aj ?_; refine Am ?_; refine Aa ?_; refine Lr ⟨[(0, (D0 a_succ)), (3, (.int .i64 (Bg (i2 + (1 : Int)))))], [], []⟩ hq ?_; obtain rfl := OI h; exact ⟨rfl, Le.refl _ _⟩
        · replace h := Aw hb h; clear hb; refine Bb ?_; refine A2 ?_; obtain rfl := OI h; exact ⟨(by intro hh; cases hh), rfl, Fx [0] [] hq⟩
      · clear hx4; rcases x4 with _ | r43
        · rintro e st' ⟨rfl, hl5⟩; refine Ay ?_; refine Aa ?_; refine Af hl5 ?_; obtain ⟨x6, hx6, h⟩ := bind_some h; refine B6 [⟨[], [], (.tuple [(.agg (B1 x6.1)), (.int .i64 x6.2)]), [], []⟩] [] ⟨[(0, (D0 a_succ)), (4, (.ptr 4 0)), (5, (.int .i64 x6.2))], (Q406 x6), []⟩ [(Spec Try.prog 10 [(D0 a_succ)] [] (.tuple [(.agg (B1 x6.1)), (.int .i64 x6.2)]) [])] hq ⟨(Jd a_succ x6 hx6), trivial⟩ ?_; refine Ae ?_; refine Au ⟨[(0, (D0 a_succ)), (4, (.ptr 4 0)), (40, (.bool ((x6.2 : Int) != (0 : Int))))], (Q406 x6), []⟩ hq ?_; refine Ak ((x6.2 : Int) != (0 : Int)) (by kernel_rfl) (fun hb => ?_) (fun hb => ?_)
          · replace h := Aq hb h; clear hb; refine Au ⟨[(2, (.bool true))], [], []⟩ hq ?_; refine Ar ?_; refine A0 ?_; obtain rfl := OI h; exact ⟨.inl rfl, [], by kernel_rfl⟩
          · replace h := Aw hb h; clear hb; refine Aj ?_; refine Aa ?_; obtain ⟨x7, hx7, h⟩ := bind_some h; refine B6 [⟨[], [(20000, 42)], (AV.list 2 Dq (default : A1) x7 (.own 20000)), [(20000, .tok 2 38 x7.length)], []⟩] [] ⟨[(0, (D0 a_succ)), (4, (.ptr 4 0)), (6, (Hz x7))], [(4, .row 26 [(AV.list 1 eLI64 [] x6.1.Succ .none), (AV.list 1 eLI64 [] x6.1.Pred .none)]), (42, .tok 2 38 x7.length)], []⟩ [(Spec Try.prog 12 [(.agg (B1 x6.1))] [] (AV.list 2 Dq (default : A1) x7 (.own 20000)) [(20000, .tok 2 38 x7.length)])] hq ⟨(Lw x6.1 x7 hx7), trivial⟩ ?_; obtain ⟨x8, hx8, h⟩ := bind_some h; refine B6 [⟨[], [(20000, 44)], (AV.list 2 Ce ((0 : Int), (0 : Int)) x8 (.own 20000)), [(20000, .tok 2 45 x8.length)], []⟩] [] ⟨[(0, (D0 a_succ)), (4, (.ptr 4 0)), (6, (Hz x7)), (7, (H9 x8))], (Ih x6 x7 x8), []⟩ [(Spec Try.prog 18 [(.agg (B1 x6.1))] [] (AV.list 2 Ce ((0 : Int), (0 : Int)) x8 (.own 20000)) [(20000, .tok 2 45 x8.length)])] hq ⟨(Hb x6.1 x8 hx8), trivial⟩ ?_; refine Ae ?_; refine Au ⟨[(0, (D0 a_succ)), (4, (.ptr 4 0)), (6, (Hz x7)), (7, (H9 x8)), (8, (.int .i64 (0 : Int)))], (Ih x6 x7 x8), []⟩ hq ?_; refine Ah ?_; refine Af (st' := (fun (i9 : Int) => (⟨[(0, (D0 a_succ)), (4, (.ptr 4 0)), (6, (Hz x7)), (7, (H9 x8)), (8, (.int .i64 i9))], (Ih x6 x7 x8), []⟩ : St)) (0 : Int)) (Le.refl _ _) ?_; obtain ⟨x26, hx26, h⟩ := bind_some h; refine Bc (fun (i9 : Int) => (⟨[(0, (D0 a_succ)), (4, (.ptr 4 0)), (6, (Hz x7)), (7, (H9 x8)), (8, (.int .i64 i9))], (Ih x6 x7 x8), []⟩ : St)) _ (fun (x_ : (Unit ⊕ Bool)) (e : Exit) (st : St) => match x_ with | (.inl _) => e = (.exit 2) ∧ Le Γ st (⟨[(0, (D0 a_succ)), (4, (.ptr 4 0))], (Q406 x6), []⟩ : St) | (.inr r_) => e = .ret ∧ Jx Try.prog Try.f6.results.toList [] (.bool r_) [] e st) ?_ hx26 ?_
            · intro i9 y h; unfold Bj at h; refine Ae ?_; refine Au ⟨[(0, (D0 a_succ)), (4, (.ptr 4 0)), (6, (Hz x7)), (7, (H9 x8)), (8, (.int .i64 i9)), (48, (.bool (decide ((i9 : Int) < (x8.length : Int)))))], (Ih x6 x7 x8), []⟩ hq ?_; refine Ak (decide ((i9 : Int) < (x8.length : Int))) (by kernel_rfl) (fun hb => ?_) (fun hb => ?_)
              · replace h := Aq hb h; clear hb; refine Aj ?_; refine Aa ?_; refine Ae ?_; refine Ah ?_; refine Au ⟨[(0, (D0 a_succ)), (4, (.ptr 4 0)), (6, (Hz x7)), (7, (H9 x8)), (8, (.int .i64 i9)), (9, (.bool false))], (Ih x6 x7 x8), []⟩ hq ?_; refine Ae ?_; refine Au ⟨[(0, (D0 a_succ)), (4, (.ptr 4 0)), (6, (Hz x7)), (7, (H9 x8)), (8, (.int .i64 i9)), (9, (.bool false)), (10, (.int .i64 (0 : Int)))], (Ih x6 x7 x8), []⟩ hq ?_; refine Ah ?_; refine Af (st' := (fun ((b10, i11) : (Bool × Int)) => (⟨[(0, (D0 a_succ)), (4, (.ptr 4 0)), (6, (Hz x7)), (7, (H9 x8)), (8, (.int .i64 i9)), (9, (.bool b10)), (10, (.int .i64 i11))], (Ih x6 x7 x8), []⟩ : St)) (false, (0 : Int))) (Le.refl _ _) ?_; obtain ⟨x24, hx24, h⟩ := bind_some h; refine Bc (fun ((b10, i11) : (Bool × Int)) => (⟨[(0, (D0 a_succ)), (4, (.ptr 4 0)), (6, (Hz x7)), (7, (H9 x8)), (8, (.int .i64 i9)), (9, (.bool b10)), (10, (.int .i64 i11))], (Ih x6 x7 x8), []⟩ : St)) _ (fun (b12 : Bool) (e : Exit) (st : St) => e = (.exit 4) ∧ Le Γ st (⟨[(0, (D0 a_succ)), (4, (.ptr 4 0)), (6, (Hz x7)), (7, (H9 x8)), (8, (.int .i64 i9)), (9, (.bool b12))], (Ih x6 x7 x8), []⟩ : St)) ?_ hx24 ?_
                · rintro ⟨b10, i11⟩ y h; unfold B4 at h; refine Ae ?_; refine Au ⟨[(0, (D0 a_succ)), (4, (.ptr 4 0)), (6, (Hz x7)), (7, (H9 x8)), (8, (.int .i64 i9)), (9, (.bool b10)), (10, (.int .i64 i11)), (54, (.bool (decide ((i11 : Int) < (x7.length : Int)))))], (Ih x6 x7 x8), []⟩ hq ?_; refine Ak (decide ((i11 : Int) < (x7.length : Int))) (by kernel_rfl) (fun hb => ?_) (fun hb => ?_)
                  · replace h := Aq hb h; clear hb; refine Aj ?_; refine Aa ?_; refine Ae ?_; refine Ah ?_; refine Au ⟨[(0, (D0 a_succ)), (4, (.ptr 4 0)), (6, (Hz x7)), (7, (H9 x8)), (8, (.int .i64 i9)), (9, (.bool b10)), (10, (.int .i64 i11)), (11, (.bool false))], (Ih x6 x7 x8), []⟩ hq ?_; refine Ae ?_; refine Au ⟨[(0, (D0 a_succ)), (4, (.ptr 4 0)), (6, (Hz x7)), (7, (H9 x8)), (8, (.int .i64 i9)), (9, (.bool b10)), (10, (.int .i64 i11)), (11, (.bool false)), (12, (.int .i64 (0 : Int)))], (Ih x6 x7 x8), []⟩ hq ?_; refine Ah ?_; refine Af (st' := (fun ((b13, i14) : (Bool × Int)) => (⟨[(0, (D0 a_succ)), (4, (.ptr 4 0)), (6, (Hz x7)), (7, (H9 x8)), (8, (.int .i64 i9)), (9, (.bool b10)), (10, (.int .i64 i11)), (11, (.bool b13)), (12, (.int .i64 i14))], (Ih x6 x7 x8), []⟩ : St)) (false, (0 : Int))) (Le.refl _ _) ?_; obtain ⟨x20, hx20, h⟩ := bind_some h; refine Bc (fun ((b13, i14) : (Bool × Int)) => (⟨[(0, (D0 a_succ)), (4, (.ptr 4 0)), (6, (Hz x7)), (7, (H9 x8)), (8, (.int .i64 i9)), (9, (.bool b10)), (10, (.int .i64 i11)), (11, (.bool b13)), (12, (.int .i64 i14))], (Ih x6 x7 x8), []⟩ : St)) _ (fun (b15 : Bool) (e : Exit) (st : St) => e = (.exit 6) ∧ Le Γ st (⟨[(0, (D0 a_succ)), (4, (.ptr 4 0)), (6, (Hz x7)), (7, (H9 x8)), (8, (.int .i64 i9)), (9, (.bool b10)), (10, (.int .i64 i11)), (11, (.bool b15))], (Ih x6 x7 x8), []⟩ : St)) ?_ hx20 ?_
                    · rintro ⟨b13, i14⟩ y h; unfold Cp at h; refine Ae ?_; obtain ⟨hc16, h⟩ := Ab h; refine B6 [] [] ⟨[(0, (D0 a_succ)), (4, (.ptr 4 0)), (6, (Hz x7)), (7, (H9 x8)), (8, (.int .i64 i9)), (9, (.bool b10)), (10, (.int .i64 i11)), (11, (.bool b13)), (12, (.int .i64 i14)), (64, (.bool (decide ((i14 : Int) < ((Q407 x7 i11).length : Int)))))], (Ih x6 x7 x8), []⟩ [(A6 i11 x7.length)] hq ⟨hc16, trivial⟩ ?_; refine Ak (decide ((i14 : Int) < ((Q407 x7 i11).length : Int))) (by kernel_rfl) (fun hb => ?_) (fun hb => ?_)
                      · replace h := Aq hb h; clear hb; refine Aj ?_; refine Aa ?_; refine Ae ?_; refine Ah ?_; obtain ⟨hc17, h⟩ := Ab h; obtain ⟨hc18, h⟩ := Ab h; obtain ⟨hc19, h⟩ := Ab h; refine rg [] [] ⟨[(0, (D0 a_succ)), (4, (.ptr 4 0)), (6, (Hz x7)), (7, (H9 x8)), (8, (.int .i64 i9)), (9, (.bool b10)), (10, (.int .i64 i11)), (11, (.bool (bif b13 then true else ((((Q407 x7 i11).getD (i14).toNat (0 : Int)) : Int) == (x8.getD (i9).toNat ((0 : Int), (0 : Int))).1)))), (12, (.int .i64 i14))], (Ih x6 x7 x8), []⟩ [((b13 == false) = true → (b13 == false) = true), ((b13 == false) = true → (b13 == false) = true), ((b13 == false) = true → (A6 i11 x7.length)), ((b13 == false) = true → (b13 == false) = true), ((b13 == false) = true → (b13 == false) = true), ((b13 == false) = true → (b13 == false) = true), ((b13 == false) = true → (b13 == false) = true), ((b13 == false) = true → (A6 i14 (Q407 x7 i11).length)), ((b13 == false) = true → (b13 == false) = true), ((b13 == false) = true → (b13 == false) = true), ((b13 == false) = true → (b13 == false) = true), ((b13 == false) = true → (A6 i9 x8.length)), ((b13 == false) = true → (b13 == false) = true), ((b13 == false) = true → (A6 (0 : Int) 2)), ((b13 == false) = true → (b13 == false) = true), ((b13 == false) = true → (b13 == false) = true), ((b13 == false) = true → (b13 == false) = true), (b13 = false → (b13 == false) = true)] hq ⟨(fun hg => hg), (fun hg => hg), (fun hg => (hc17 hg)), (fun hg => hg), (fun hg => hg), (fun hg => hg), (fun hg => hg), (fun hg => (hc18 hg)), (fun hg => hg), (fun hg => hg), (fun hg => hg), (fun hg => (hc19 hg)), (fun hg => hg), (fun hg => (by decide)), (fun hg => hg), (fun hg => hg), (fun hg => hg), gF, trivial⟩ ?_; refine Am ?_; refine Aa ?_; refine Lr ⟨[(0, (D0 a_succ)), (4, (.ptr 4 0)), (6, (Hz x7)), (7, (H9 x8)), (8, (.int .i64 i9)), (9, (.bool b10)), (10, (.int .i64 i11)), (11, (.bool (bif b13 then true else ((((Q407 x7 i11).getD (i14).toNat (0 : Int)) : Int) == (x8.getD (i9).toNat ((0 : Int), (0 : Int))).1)))), (12, (.int .i64 (Bg (i14 + (1 : Int)))))], (Ih x6 x7 x8), []⟩ hq ?_; obtain rfl := OI h; exact ⟨rfl, Le.refl _ _⟩
                      · replace h := Aw hb h; clear hb; refine Bb ?_; refine A2 ?_; obtain rfl := OI h; exact ⟨(by intro hh; cases hh), rfl, Fx [0, 4, 6, 7, 8, 9, 10, 11] [4, 42, 44] hq⟩
                    · clear hx20; rintro e st' ⟨rfl, hl21⟩; refine Ay ?_; refine Aa ?_; refine Af hl21 ?_; obtain ⟨hc22, h⟩ := Ab h; obtain ⟨hc23, h⟩ := Ab h; refine rg [] [] ⟨[(0, (D0 a_succ)), (4, (.ptr 4 0)), (6, (Hz x7)), (7, (H9 x8)), (8, (.int .i64 i9)), (9, (.bool (bif b10 then true else (bif (Q404 x7 i11 x8 i9) then x20 else false)))), (10, (.int .i64 i11))], (Ih x6 x7 x8), []⟩ [((b10 == false) = true → (b10 == false) = true), ((b10 == false) = true → (b10 == false) = true), ((b10 == false) = true → (A6 i11 x7.length)), ((b10 == false) = true → (b10 == false) = true), ((b10 == false) = true → (b10 == false) = true), ((b10 == false) = true → (b10 == false) = true), ((b10 == false) = true → (b10 == false) = true), ((b10 == false) = true → (A6 i9 x8.length)), ((b10 == false) = true → (b10 == false) = true), ((b10 == false) = true → (A6 (1 : Int) 2)), ((b10 == false) = true → (b10 == false) = true), ((b10 == false) = true → (b10 == false) = true), ((b10 == false) = true → (b10 == false) = true), ((b10 == false) = true → (b10 == false) = true), ((b10 == false) = true → (b10 == false) = true), ((b10 == false) = true → ((Q404 x7 i11 x8 i9) = true → ((b10 == false) && ((Q404 x7 i11 x8 i9) == true)) = true)), (b10 = false → (b10 == false) = true)] hq ⟨(fun hg => hg), (fun hg => hg), (fun hg => (hc22 hg)), (fun hg => hg), (fun hg => hg), (fun hg => hg), (fun hg => hg), (fun hg => (hc23 hg)), (fun hg => hg), (fun hg => (by decide)), (fun hg => hg), (fun hg => hg), (fun hg => hg), (fun hg => hg), (fun hg => hg), (fun hg => (aT hg)), gF, trivial⟩ ?_; refine Am ?_; refine Aa ?_; refine Lr ⟨[(0, (D0 a_succ)), (4, (.ptr 4 0)), (6, (Hz x7)), (7, (H9 x8)), (8, (.int .i64 i9)), (9, (.bool (bif b10 then true else (bif (Q404 x7 i11 x8 i9) then x20 else false)))), (10, (.int .i64 (Bg (i11 + (1 : Int)))))], (Ih x6 x7 x8), []⟩ hq ?_; obtain rfl := OI h; exact ⟨rfl, Le.refl _ _⟩
                  · replace h := Aw hb h; clear hb; refine Bb ?_; refine A2 ?_; obtain rfl := OI h; exact ⟨(by intro hh; cases hh), rfl, Fx [0, 4, 6, 7, 8, 9] [4, 42, 44] hq⟩
                · clear hx24; rintro e st' ⟨rfl, hl25⟩; refine Ay ?_; refine Aa ?_; refine Af hl25 ?_; refine Au ⟨[(0, (D0 a_succ)), (4, (.ptr 4 0)), (6, (Hz x7)), (7, (H9 x8)), (8, (.int .i64 i9)), (102, (.bool (!x24)))], (Ih x6 x7 x8), []⟩ hq ?_; refine Ak (!x24) (by kernel_rfl) (fun hb => ?_) (fun hb => ?_)
                  · replace h := Aq hb h; clear hb; refine Au ⟨[(2, (.bool false))], [], []⟩ hq ?_; refine Ar ?_; refine Bm ?_; refine A0 ?_; obtain rfl := OI h; exact ⟨(by intro hh; cases hh), rfl, ⟨.inl rfl, [], by kernel_rfl⟩⟩
                  · replace h := Aw hb h; clear hb; refine Aj ?_; refine Am ?_; refine Aa ?_; refine Lr ⟨[(0, (D0 a_succ)), (4, (.ptr 4 0)), (6, (Hz x7)), (7, (H9 x8)), (8, (.int .i64 (Bg (i9 + (1 : Int)))))], (Ih x6 x7 x8), []⟩ hq ?_; obtain rfl := OI h; exact ⟨rfl, Le.refl _ _⟩
              · replace h := Aw hb h; clear hb; refine Bb ?_; refine A2 ?_; obtain rfl := OI h; exact ⟨(by intro hh; cases hh), rfl, Fx [0, 4] [4] hq⟩
            · clear hx26; rcases x26 with _ | r42
              · rintro e st' ⟨rfl, hl27⟩; refine Ay ?_; refine Aa ?_; refine Af hl27 ?_; obtain ⟨x28, hx28, h⟩ := bind_some h; refine B6 [⟨[], [(20000, 104)], (AV.list 1 Ac (0 : Int) x28 (.own 20000)), [(20000, .tok 1 3 x28.length)], []⟩] [] ⟨[(0, (D0 a_succ)), (4, (.ptr 4 0)), (13, (Ns x28))], (Nr x6 x28), []⟩ [(Spec Try.prog 20 [(.agg (B1 x6.1)), (.int .i64 (0 : Int))] [] (AV.list 1 Ac (0 : Int) x28 (.own 20000)) [(20000, .tok 1 3 x28.length)])] hq ⟨(Gi x6.1 (0 : Int) x28 hx28), trivial⟩ ?_; refine Ae ?_; refine Au ⟨[(0, (D0 a_succ)), (4, (.ptr 4 0)), (13, (Ns x28)), (14, (.int .i64 (0 : Int)))], (Nr x6 x28), []⟩ hq ?_; refine Ah ?_; refine Af (st' := (fun (i29 : Int) => (⟨[(0, (D0 a_succ)), (4, (.ptr 4 0)), (13, (Ns x28)), (14, (.int .i64 i29))], (Nr x6 x28), []⟩ : St)) (0 : Int)) (Le.refl _ _) ?_; obtain ⟨x39, hx39, h⟩ := bind_some h; refine Bc (fun (i29 : Int) => (⟨[(0, (D0 a_succ)), (4, (.ptr 4 0)), (13, (Ns x28)), (14, (.int .i64 i29))], (Nr x6 x28), []⟩ : St)) _ (fun (x_ : (Unit ⊕ Bool)) (e : Exit) (st : St) => match x_ with | (.inl _) => e = (.exit 8) ∧ Le Γ st (⟨[], [], []⟩ : St) | (.inr r_) => e = .ret ∧ Jx Try.prog Try.f6.results.toList [] (.bool r_) [] e st) ?_ hx39 ?_
                · intro i29 y h; unfold Bl at h; refine Ae ?_; refine Au ⟨[(0, (D0 a_succ)), (4, (.ptr 4 0)), (13, (Ns x28)), (14, (.int .i64 i29)), (108, (.bool (decide ((i29 : Int) < (x28.length : Int)))))], (Nr x6 x28), []⟩ hq ?_; refine Ak (decide ((i29 : Int) < (x28.length : Int))) (by kernel_rfl) (fun hb => ?_) (fun hb => ?_)
                  · replace h := Aq hb h; clear hb; refine Aj ?_; refine Aa ?_; refine Ae ?_; refine Ah ?_; obtain ⟨hc30, h⟩ := Ab h; refine B6 [] [] ⟨[(0, (D0 a_succ)), (4, (.ptr 4 0)), (13, (Ns x28)), (14, (.int .i64 i29)), (15, (Xy x28 i29))], (Nr x6 x28), []⟩ [(A6 i29 x28.length)] hq ⟨hc30, trivial⟩ ?_; refine Au ⟨[(0, (D0 a_succ)), (4, (.ptr 4 0)), (13, (Ns x28)), (14, (.int .i64 i29)), (15, (Xy x28 i29)), (16, (.int .i64 (0 : Int)))], (Nr x6 x28), []⟩ hq ?_; refine Ah ?_; refine Af (st' := (fun (i31 : Int) => (⟨[(0, (D0 a_succ)), (4, (.ptr 4 0)), (13, (Ns x28)), (14, (.int .i64 i29)), (15, (Xy x28 i29)), (16, (.int .i64 i31))], (Nr x6 x28), []⟩ : St)) (0 : Int)) (Le.refl _ _) ?_; obtain ⟨x36, hx36, h⟩ := bind_some h; refine Bc (fun (i31 : Int) => (⟨[(0, (D0 a_succ)), (4, (.ptr 4 0)), (13, (Ns x28)), (14, (.int .i64 i29)), (15, (Xy x28 i29)), (16, (.int .i64 i31))], (Nr x6 x28), []⟩ : St)) _ (fun (x_ : (Unit ⊕ Bool)) (e : Exit) (st : St) => match x_ with | (.inl _) => e = (.exit 10) ∧ Le Γ st (⟨[(0, (D0 a_succ)), (4, (.ptr 4 0)), (13, (Ns x28)), (14, (.int .i64 i29))], (Nr x6 x28), []⟩ : St) | (.inr r_) => e = .ret ∧ Jx Try.prog Try.f6.results.toList [] (.bool r_) [] e st) ?_ hx36 ?_
                    · intro i31 y h; unfold Bk at h; refine Ae ?_; obtain ⟨hc32, h⟩ := Ab h; refine B6 [] [] ⟨[(0, (D0 a_succ)), (4, (.ptr 4 0)), (13, (Ns x28)), (14, (.int .i64 i29)), (15, (Xy x28 i29)), (16, (.int .i64 i31)), (121, (.bool (decide ((i31 : Int) < ((a_succ.getD ((x28.getD (i29).toNat (0 : Int))).toNat []).length : Int)))))], (Nr x6 x28), []⟩ [(A6 (x28.getD (i29).toNat (0 : Int)) a_succ.length)] hq ⟨hc32, trivial⟩ ?_; refine Ak (decide ((i31 : Int) < ((a_succ.getD ((x28.getD (i29).toNat (0 : Int))).toNat []).length : Int))) (by kernel_rfl) (fun hb => ?_) (fun hb => ?_)
                      · replace h := Aq hb h; clear hb; refine Aj ?_; refine Aa ?_; refine Ae ?_; refine Ah ?_; obtain ⟨hc33, h⟩ := Ab h; obtain ⟨hc34, h⟩ := Ab h; obtain ⟨x35, hx35, h⟩ := bind_some h; refine B6 [⟨[], [], (.int .i64 x35), [], []⟩] [] ⟨[(0, (D0 a_succ)), (4, (.ptr 4 0)), (13, (Ns x28)), (14, (.int .i64 i29)), (15, (Xy x28 i29)), (16, (.int .i64 i31)), (138, (.bool (bif (Rx a_succ x28 i29 i31) then (decide ((x35 : Int) < (1 : Int))) else false)))], (Nr x6 x28), []⟩ [(A6 (x28.getD (i29).toNat (0 : Int)) a_succ.length), (A6 i31 (a_succ.getD ((x28.getD (i29).toNat (0 : Int))).toNat []).length), (((Rx a_succ x28 i29 i31) == true) = true → ((Rx a_succ x28 i29 i31) == true) = true), (((Rx a_succ x28 i29 i31) == true) = true → ((Rx a_succ x28 i29 i31) == true) = true), (((Rx a_succ x28 i29 i31) == true) = true → (Spec Try.prog 19 [(.agg (B1 x6.1)), (Xy x28 i29)] [] (.int .i64 x35) [])), (((Rx a_succ x28 i29 i31) == true) = true → ((Rx a_succ x28 i29 i31) == true) = true), ((Rx a_succ x28 i29 i31) = true → ((Rx a_succ x28 i29 i31) == true) = true)] hq ⟨hc33, hc34, (fun hg => hg), (fun hg => hg), (fun hg => (I7 x6.1 (x28.getD (i29).toNat (0 : Int)) x35 (Aq hg hx35))), (fun hg => hg), gT, trivial⟩ ?_; refine Ak (bif (Rx a_succ x28 i29 i31) then (decide ((x35 : Int) < (1 : Int))) else false) (by kernel_rfl) (fun hb => ?_) (fun hb => ?_)
                        · replace h := Aq hb h; clear hb; refine Au ⟨[(2, (.bool false))], [], []⟩ hq ?_; refine Ar ?_; refine Bm ?_; refine A0 ?_; obtain rfl := OI h; exact ⟨(by intro hh; cases hh), rfl, ⟨.inl rfl, [], by kernel_rfl⟩⟩
                        · replace h := Aw hb h; clear hb; refine Aj ?_; refine Am ?_; refine Aa ?_; refine Lr ⟨[(0, (D0 a_succ)), (4, (.ptr 4 0)), (13, (Ns x28)), (14, (.int .i64 i29)), (15, (Xy x28 i29)), (16, (.int .i64 (Bg (i31 + (1 : Int)))))], (Nr x6 x28), []⟩ hq ?_; obtain rfl := OI h; exact ⟨rfl, Le.refl _ _⟩
                      · replace h := Aw hb h; clear hb; refine Bb ?_; refine A2 ?_; obtain rfl := OI h; exact ⟨(by intro hh; cases hh), rfl, Fx [0, 4, 13, 14] [4, 104] hq⟩
                    · clear hx36; rcases x36 with _ | r38
                      · rintro e st' ⟨rfl, hl37⟩; refine Ay ?_; refine Am ?_; refine Aa ?_; refine Af hl37 ?_; refine Lr ⟨[(0, (D0 a_succ)), (4, (.ptr 4 0)), (13, (Ns x28)), (14, (.int .i64 (Bg (i29 + (1 : Int)))))], (Nr x6 x28), []⟩ hq ?_; obtain rfl := OI h; exact ⟨rfl, Le.refl _ _⟩
                      · rintro e st' ⟨rfl, hk⟩; refine Bm ?_; refine Bm ?_; refine A0 ?_; obtain rfl := OI h; exact ⟨(by intro hh; cases hh), rfl, hk⟩
                  · replace h := Aw hb h; clear hb; refine Bb ?_; refine A2 ?_; obtain rfl := OI h; exact ⟨(by intro hh; cases hh), rfl, Fx [] [] hq⟩
                · clear hx39; rcases x39 with _ | r41
                  · rintro e st' ⟨rfl, hl40⟩; refine Ay ?_; refine Aa ?_; refine Af hl40 ?_; refine Au ⟨[(2, (.bool true))], [], []⟩ hq ?_; refine Ar ?_; obtain rfl := OI h; exact ⟨.inl rfl, [], by kernel_rfl⟩
                  · rintro e st' ⟨rfl, hk⟩; refine Bm ?_; refine A0 ?_; obtain rfl := OI h; exact hk
              · rintro e st' ⟨rfl, hk⟩; refine Bm ?_; refine A0 ?_; obtain rfl := OI h; exact hk
        · rintro e st' ⟨rfl, hk⟩; refine Bm ?_; refine A0 ?_; obtain rfl := OI h; exact hk
end
end Go.Proofs.Ytjpacggpipflcaa

namespace Go.Proofs.Ytjpacggpipflcaa
noncomputable section
open Go Go.RowKit
theorem Lx {n : Int} (h : -9223372036854775808 ≤ n) (h' : n < 9223372036854775808) : Bg n = n := by
  show IntKind.i64.wrap n = n
  simp only [IntKind.wrap, IntKind.bits, IntKind.signed]
  simp
  split <;> omega
theorem Ag {α : Type} (l : List α) (i : Nat) (d : α) (h : i < l.length) : l.getD i d = l[i] := by simp [List.getD, h]
end
end Go.Proofs.Ytjpacggpipflcaa

namespace Go.Proofs.Ytjpacggpipflcaa
noncomputable section
open Go Go.RowKit
set_option linter.unusedVariables false
theorem Yn {α β : Type} (l : List α) (E : α → List β) (B : Nat) (h : ∀ a ∈ l, (E a).length ≤ B) : (l.map E).flatten.length ≤ l.length * B := by
  induction l with
  | nil => simp
  | cons a l ih =>
    have h1 := h a (by simp); have h2 := ih (fun b hb => h b (by simp [hb])); rw [List.map_cons, List.flatten_cons, List.length_append, List.length_cons, Nat.add_mul]; omega
theorem Eb {α : Type} {l : List α} {i : Nat} {d : α} (h : i < l.length) : l.getD i d ∈ l := by rw [Ag _ _ _ h]; exact List.getElem_mem h
theorem inB_nat {i n : Nat} (h : i < n) : A6 (i : Int) n := ⟨by omega, by exact_mod_cast h⟩
end
end Go.Proofs.Ytjpacggpipflcaa

namespace Go.Proofs.Ytjpacggpipflcaa
noncomputable section
open Go Go.RowKit
set_option linter.unusedVariables false
set_option linter.unusedSimpArgs false
theorem Do {S X : Type} (f : S → Option (LR S X)) (T : Nat → S) (x : X) : ∀ (n : Nat), (∀ i, i < n → f (T i) = some (.next (T (i + 1)))) → f (T n) = some (.done x) → At f (T 0) = some x := by
  suffices h : ∀ (k i n : Nat), i + k = n → (∀ j, i ≤ j → j < n → f (T j) = some (.next (T (j + 1)))) → f (T n) = some (.done x) → At f (T i) = some x from
    fun n h1 h2 => h n 0 n (by omega) (fun j _ hj => h1 j hj) h2
  intro k
  induction k with
  | zero =>
    intro i n hi _ h2
    have hin : n = i := by omega
    subst hin; exact A7 h2
  | succ k ih => intro i n hi h1 h2; rw [Bs (h1 i (Nat.le_refl _) (by omega))]; exact ih (i + 1) n (by omega) (fun j hj hj' => h1 j (by omega) hj') h2
theorem Su {S X : Type} (f : S → Option (LR S X)) (T : Nat → S) : ∀ (n : Nat), (∀ i, i < n → f (T i) = some (.next (T (i + 1)))) → At f (T 0) = At f (T n) := by
  intro n
  induction n with
  | zero => intro _; rfl
  | succ n ih => intro h; rw [ih (fun i hi => h i (by omega)), Bs (h n (by omega))]
theorem Gx {S X : Type} (f : S → Option (LR S X)) (T : Nat → S) (p : Nat → Bool) (yes no : X) (n : Nat) (hn : ∀ i, i < n → p i = true → f (T i) = some (.next (T (i + 1)))) (hf : ∀ i, i < n → p i = false → f (T i) = some (.done no))
    (he : f (T n) = some (.done yes)) : At f (T 0) = some (bif (List.range n).all p then yes else no) := by
  cases hall : (List.range n).all p with
  | true =>
    rw [cond_true]; exact Do f T yes n (fun i hi => hn i hi (List.all_eq_true.1 hall i (List.mem_range.2 hi))) he
  | false =>
    rw [cond_false]
    have hex : ∃ i, i < n ∧ p i = false := by
      have : ¬ ∀ i ∈ List.range n, p i = true := fun h => by rw [List.all_eq_true.2 h] at hall; cases hall
      simpa using this
    let P : Nat → Prop := fun m => m < n ∧ p m = false
    obtain ⟨m, hm⟩ := hex
    have key : ∀ m, m < n → p m = false → ∃ k, k < n ∧ p k = false ∧ ∀ j, j < k → p j = true := by
      intro m
      induction m using Nat.strongRecOn with
      | ind m ih =>
        intro h1 h2
        by_cases h : ∃ j, j < m ∧ p j = false
        · obtain ⟨j, hj, hpj⟩ := h; exact ih j hj (by omega) hpj
        · refine ⟨m, h1, h2, fun j hj => ?_⟩
          cases hpj : p j with
          | true => rfl
          | false => exact (h ⟨j, hj, hpj⟩).elim
    obtain ⟨k, hk, hpk, hlt⟩ := key m hm.1 hm.2; rw [Su f T k (fun i hi => hn i (by omega) (hlt i hi))]; exact A7 (hf k hk hpk)
theorem all_range {n : Nat} {p : Nat → Bool} : (List.range n).all p = true ↔ ∀ i, i < n → p i = true := by
  rw [List.all_eq_true]; exact ⟨fun h i hi => h i (List.mem_range.2 hi), fun h i hi => h i (List.mem_range.1 hi)⟩
theorem An (i : Nat) : ((i : Int)).toNat = i := Int.toNat_natCast i
theorem w1 {i : Nat} (h : i < 4611686018427387904) : Bg ((i : Int) + 1) = ((i + 1 : Nat) : Int) := by rw [Lx (by omega) (by omega)]; omega
theorem Cz {i n : Nat} (h : i < n) : decide (((i : Nat) : Int) < ((n : Nat) : Int)) = true := by simpa using h
theorem Ee {n : Nat} : decide (((n : Nat) : Int) < ((n : Nat) : Int)) = false := by simp
theorem D3 {i n : Nat} (h : i < n) : A6 ((i : Nat) : Int) n := inB_nat h
theorem inbz {x : Int} {n : Nat} (h0 : 0 ≤ x) (h1 : x < n) : A6 x n := ⟨h0, h1⟩
def okAt (n : Nat) (l : List Int) (i : Nat) : Bool := decide ((if i = 0 then (-1 : Int) else l.getD (i - 1) 0) < l.getD i 0) && (decide (0 ≤ l.getD i 0) && decide (l.getD i 0 < n))
def okL (n : Nat) (l : List Int) : Bool := (List.range l.length).all (okAt n l)
def Eu (L : List (List Int)) : Bool := decide (1 ≤ L.length) && decide (L.length ≤ 64) && (List.range L.length).all fun i => okL L.length (L.getD i [])
def Mx (L : List (List Int)) (k i : Nat) : Bool := (L.getD k []).contains (i : Int)
def En (L : List (List Int)) (m i : Nat) : List Int := ((List.range m).filter fun k => Mx L k i).map Int.ofNat
def Dz (L : List (List Int)) : List (List Int) := (List.range L.length).map (En L L.length)
theorem Ma (a n : Int) : Eh a n = some (decide (0 ≤ a) && decide (a < n)) := by
  unfold Eh
  cases decide ((0 : Int) ≤ a) <;> rfl
theorem m_isCount (n : Nat) : E5 (n : Int) = some (decide (1 ≤ n) && decide (n ≤ 64)) := by
  unfold E5
  have h1 : decide ((1 : Int) ≤ (n : Int)) = decide (1 ≤ n) := by apply decide_eq_decide.2; omega
  have h2 : decide ((n : Int) ≤ (64 : Int)) = decide (n ≤ 64) := by apply decide_eq_decide.2; omega
  rw [h1, h2]
  cases decide (1 ≤ n) <;> rfl
theorem Rt (L : List (List Int)) (i : Nat) (hl : (L.getD i []).length < 4611686018427387904) :
    At (B2 L (i : Int)) ((-1 : Int), (0 : Int)) = some (bif okL L.length (L.getD i []) then .inl () else .inr false) := by
  refine Gx (B2 L (i : Int)) (fun j => ((if j = 0 then (-1 : Int) else (L.getD i []).getD (j - 1) 0), ((j : Nat) : Int))) (okAt L.length (L.getD i [])) (.inl ()) (.inr false) _ (fun j hj hp => ?_) (fun j hj hp => ?_) ?_
  · unfold okAt at hp; simp only [Bool.and_eq_true, decide_eq_true_eq] at hp; obtain ⟨h1, h2, h3⟩ := hp
    show B2 L (i : Int) (_, _) = _
    unfold B2; simp only [An, Cz hj, cond_true, Ma]; rw [Ad (D3 hj)]
    have e1 : decide ((L.getD i []).getD j 0 ≤ (if j = 0 then (-1 : Int) else (L.getD i []).getD (j - 1) 0)) = false := by simpa using h1
    simp only [e1, decide_eq_true h2, decide_eq_true h3, Bool.and_self, beq_self_eq_true, cond_true, cond_false, Option.bind_some, Bool.not_true]; rw [w1 (show j < 4611686018427387904 by omega)]
    simp
  · show B2 L (i : Int) (_, _) = _
    unfold B2; simp only [An, Cz hj, cond_true, Ma]; rw [Ad (D3 hj)]
    cases h1 : decide ((L.getD i []).getD j 0 ≤ (if j = 0 then (-1 : Int) else (L.getD i []).getD (j - 1) 0)) with
    | true => simp only [cond_true, show ((true == false) = false) from rfl, cond_false, Option.bind_some]
    | false =>
      have h1' : decide ((if j = 0 then (-1 : Int) else (L.getD i []).getD (j - 1) 0) < (L.getD i []).getD j 0) = true := by simpa using h1
      unfold okAt at hp; rw [h1', Bool.true_and] at hp; simp only [beq_self_eq_true, cond_true, cond_false, Option.bind_some, hp, Bool.not_false]
  · show B2 L (i : Int) (_, _) = _
    unfold B2; simp only [An, Ee, cond_false]
def Fits (L : List (List Int)) : Prop := L.length < 4611686018427387904 ∧ ∀ l ∈ L, l.length < 4611686018427387904
theorem Fits.at {L : List (List Int)} (h : Fits L) (i : Nat) : (L.getD i []).length < 4611686018427387904 := by
  by_cases hi : i < L.length
  · exact h.2 _ (Eb hi)
  · rw [List.getD_eq_getElem?_getD, List.getElem?_eq_none (by omega)]; simp
theorem Tw (L : List (List Int)) (h : Fits L) : Ei L = some (Eu L) := by
  unfold Ei; rw [m_isCount, Option.bind_some]; unfold Eu
  cases hc : (decide (1 ≤ L.length) && decide (L.length ≤ 64)) with
  | false => rfl
  | true =>
    simp only [Bool.not_true, cond_false, Bool.true_and]; have := Gx (B3 L) (fun j => ((j : Nat) : Int)) (fun i => okL L.length (L.getD i [])) (.inl ()) (.inr false) L.length (fun j hj hp => ?_) (fun j hj hp => ?_) ?_
    · rw [show At (B3 L) (0 : Int) = _ from this]
      cases (List.range L.length).all fun i => okL L.length (L.getD i []) <;> rfl
    · show B3 L (j : Int) = _
      unfold B3; simp only [Cz hj, cond_true]; rw [Ad (D3 hj), Rt L j (h.at j), hp]; simp only [cond_true, Option.bind_some, w1 (show j < 4611686018427387904 by have := h.1; omega)]
    · show B3 L (j : Int) = _
      unfold B3; simp only [Cz hj, cond_true]; rw [Ad (D3 hj), Rt L j (h.at j), hp]
      rfl
    · show B3 L _ = _
      unfold B3; simp only [Ee, cond_false]
end
end Go.Proofs.Ytjpacggpipflcaa

namespace Go.Proofs.Ytjpacggpipflcaa
noncomputable section
open Go Go.RowKit
set_option linter.unusedVariables false
set_option linter.unusedSimpArgs false
theorem I5 {α : Type} {n i : Nat} {g : Nat → α} {d : α} (h : i < n) : ((List.range n).map g).getD i d = g i := by simp [List.getD, h]
theorem Oq {α : Type} {n i : Nat} {g : Nat → α} {x : α} : ((List.range n).map g).set i x = (List.range n).map fun j => if j = i then x else g j := by
  apply List.ext_getElem?
  intro j; rw [List.getElem?_set]
  by_cases hj : j < n
  · by_cases hij : i = j
    · subst hij; simp [hj]
    · simp [hij, hj, Ne.symm hij]
  · simp [hj]; intro h; omega
theorem Gn {α : Type} {n : Nat} {g h : Nat → α} (H : ∀ i, i < n → g i = h i) : (List.range n).map g = (List.range n).map h := List.map_congr_left fun i hi => H i (List.mem_range.1 hi)
theorem mayS_iff {L : List (List Int)} : Eu L = true ↔ 1 ≤ L.length ∧ L.length ≤ 64 ∧ ∀ i, i < L.length → okL L.length (L.getD i []) = true := by
  unfold Eu; rw [Bool.and_eq_true, Bool.and_eq_true, all_range]; simp only [decide_eq_true_eq]; exact ⟨fun ⟨⟨a, b⟩, c⟩ => ⟨a, b, c⟩, fun ⟨a, b, c⟩ => ⟨⟨a, b⟩, c⟩⟩
theorem okL_iff {n : Nat} {l : List Int} : okL n l = true ↔ ∀ i, i < l.length → (0 ≤ l.getD i 0 ∧ l.getD i 0 < n) ∧ (0 < i → l.getD (i - 1) 0 < l.getD i 0) := by
  unfold okL; rw [all_range]; unfold okAt; simp only [Bool.and_eq_true, decide_eq_true_eq]
  constructor
  · intro h i hi; obtain ⟨h1, h2, h3⟩ := h i hi; refine ⟨⟨h2, h3⟩, fun hp => ?_⟩; rwa [if_neg (by omega)] at h1
  · intro h i hi; obtain ⟨⟨h2, h3⟩, h1⟩ := h i hi; refine ⟨?_, h2, h3⟩
    by_cases hz : i = 0
    · rw [if_pos hz]; omega
    · rw [if_neg hz]; exact h1 (by omega)
section
variable {n : Nat} {l : List Int} (h : okL n l = true)
include h
theorem Pa {i : Nat} (hi : i < l.length) : 0 ≤ l.getD i 0 ∧ l.getD i 0 < n := (okL_iff.1 h i hi).1
theorem Y1 {i j : Nat} (hij : i < j) (hj : j < l.length) : l.getD i 0 < l.getD j 0 := by
  induction j with
  | zero => omega
  | succ j ih =>
    have h1 := (okL_iff.1 h (j + 1) hj).2 (by omega); rw [show j + 1 - 1 = j by omega] at h1
    by_cases he : i = j
    · rw [he]; exact h1
    · exact Int.lt_trans (ih (by omega) (by omega)) h1
theorem okL_ge {i : Nat} (hi : i < l.length) : (i : Int) ≤ l.getD i 0 := by
  induction i with
  | zero => exact (Pa h hi).1
  | succ i ih =>
    have := Y1 h (show i < i + 1 by omega) hi; have := ih (by omega); omega
theorem It : l.length ≤ n := by
  by_cases hz : l.length = 0
  · omega
  · have h1 := okL_ge h (show l.length - 1 < l.length by omega); have h2 := (Pa h (show l.length - 1 < l.length by omega)).2; omega
theorem Hw {x : Int} (hx : x ∈ l) : 0 ≤ x ∧ x < n := by
  obtain ⟨i, hi, rfl⟩ := List.getElem_of_mem hx; have := Pa h hi; rwa [Ag _ _ _ hi] at this
theorem Wa : l.Pairwise (· < ·) := by
  rw [List.pairwise_iff_getElem]; intro i j hi hj hij; have := Y1 h hij hj; rwa [Ag _ _ _ hi, Ag _ _ _ hj] at this
end
theorem okL_of {n : Nat} {l : List Int} (h1 : ∀ x ∈ l, 0 ≤ x ∧ x < n) (h2 : l.Pairwise (· < ·)) : okL n l = true := by
  rw [okL_iff]; intro i hi; rw [Ag _ _ _ hi]; refine ⟨h1 _ (List.getElem_mem hi), fun hp => ?_⟩; rw [Ag _ _ _ (show i - 1 < l.length by omega)]; exact (List.pairwise_iff_getElem.1 h2) _ _ _ _ (by omega)
theorem L7 {L : List (List Int)} (h : Eu L = true) : L.length ≤ 64 ∧ ∀ l ∈ L, l.length ≤ 64 := by
  obtain ⟨h1, h2, h3⟩ := mayS_iff.1 h; refine ⟨h2, fun l hl => ?_⟩; obtain ⟨i, hi, rfl⟩ := List.getElem_of_mem hl; have := It (h3 i hi); rw [Ag _ _ _ hi] at this; omega
theorem Aac {L : List (List Int)} (h : L.length ≤ 1000 ∧ ∀ l ∈ L, l.length ≤ 1000) : Fits L := ⟨by omega, fun l hl => by have := h.2 l hl; omega⟩
theorem m_clone (l : List Int) (h : l.length ≤ room) : De l = some l := by
  unfold De; rw [Ad (by simpa using h)]
  simp
theorem m_copied (L : List (List Int)) (h : L.length ≤ 1000 ∧ ∀ l ∈ L, l.length ≤ 1000) : Fn L = some L := by
  have hroom : (1000 : Nat) ≤ room := by decide
  unfold Fn; rw [Ad ⟨by omega, Int.le_refl _, by omega⟩, An]; have : At (C2 L) ((0 : Int), (List.range L.length).map fun i => if i < 0 then L.getD i [] else []) = some L := Do (C2 L) (fun j => (((j : Nat) : Int), (List.range L.length).map fun i => if i < j then L.getD i [] else [])) L L.length (fun j hj => ?_) ?_
  · have e0 : (List.replicate L.length ([] : List Int)) = (List.range L.length).map fun i => if i < 0 then L.getD i [] else [] := by
      apply List.ext_getElem?
      intro i
      by_cases hi : i < L.length <;> simp [hi, List.getElem?_replicate]
    rw [e0, this]; rfl
  · show C2 L (_, _) = _
    unfold C2; simp only [An, Cz hj, cond_true]; rw [Ad (D3 hj), m_clone _ (by have := h.2 _ (Eb (d := []) hj); omega), Option.bind_some, Ad (D3 (by simpa using hj)), Oq, w1 (by omega)]
    congr 3
    apply Gn
    intro i hi
    by_cases h1 : i = j
    · subst h1; simp
    · by_cases h2 : i < j
      · simp [h1, h2, show i < j + 1 by omega]
      · simp [h1, h2, show ¬ i < j + 1 by omega]
  · show C2 L (_, _) = _
    unfold C2; simp only [Ee, cond_false]
    congr 2
    apply List.ext_getElem?
    intro i
    by_cases hi : i < L.length
    · simp [hi]
    · simp [hi]
theorem Xm (L : List (List Int)) (k i : Nat) : En L (k + 1) i = En L k i ++ (if Mx L k i = true then [(k : Int)] else []) := by
  unfold En; rw [List.range_succ, List.filter_append, List.map_append]
  congr 1
  cases hg : Mx L k i <;> simp [hg]
theorem Kg (L : List (List Int)) (k i : Nat) : (En L k i).length ≤ k := by
  unfold En; rw [List.length_map]; have := List.length_filter_le (fun k => Mx L k i) (List.range k)
  simpa using this
theorem O4 {l : List Int} {j : Nat} (hj : j < l.length) : l.take (j + 1) = l.take j ++ [l.getD j 0] := by
  rw [Ag _ _ _ hj, List.take_succ_eq_append_getElem hj]
def I8 (L : List (List Int)) (k j i : Nat) : Bool := ((L.getD k []).take j).contains (i : Int)
def Fh (L : List (List Int)) (k j : Nat) : List (List Int) := (List.range L.length).map fun i => En L k i ++ (if I8 L k j i = true then [(k : Int)] else [])
theorem Vq (L : List (List Int)) (h : Eu L = true) (k j : Nat) (hk : k < L.length) (hj : j < (L.getD k []).length) :
    (Fh L k j).set ((L.getD k []).getD j 0).toNat ((Fh L k j).getD ((L.getD k []).getD j 0).toNat [] ++ [(k : Int)]) = Fh L k (j + 1) := by
  obtain ⟨h1, h2, h3⟩ := mayS_iff.1 h; have hok := h3 k hk; obtain ⟨a0, a1⟩ := Pa hok hj; unfold Fh; rw [I5 (by omega), Oq]
  apply Gn
  intro i hi
  have hnot : I8 L k j ((L.getD k []).getD j 0).toNat = false := by
    unfold I8; rw [Int.toNat_of_nonneg a0]
    cases hc : ((L.getD k []).take j).contains ((L.getD k []).getD j 0) with
    | false => rfl
    | true =>
      rw [List.contains_iff_mem] at hc; obtain ⟨m, hm, he⟩ := List.getElem_of_mem hc
      have hm' : m < j := by simp at hm; omega
      rw [List.getElem_take] at he; have := Y1 hok hm' hj; rw [Ag _ _ _ (show m < (L.getD k []).length by omega), he] at this; omega
  by_cases hi2 : i = ((L.getD k []).getD j 0).toNat
  · rw [if_pos hi2, hnot]
    have : I8 L k (j + 1) i = true := by
      unfold I8; rw [O4 hj, List.contains_iff_mem, hi2, Int.toNat_of_nonneg a0]
      simp
    rw [this, hi2]
    simp
  · rw [if_neg hi2]
    have : I8 L k (j + 1) i = I8 L k j i := by
      unfold I8; rw [O4 hj, Bool.eq_iff_iff, List.contains_iff_mem, List.contains_iff_mem, List.mem_append]
      constructor
      · rintro (hm | hm)
        · exact hm
        · simp only [List.mem_singleton] at hm; exact (hi2 (by omega)).elim
      · exact .inl
    rw [this]
theorem Xz (L : List (List Int)) (h : Eu L = true) : Ey L = some (Dz L) := by
  obtain ⟨h1, h2, h3⟩ := mayS_iff.1 h
  have hroom : (1000 : Nat) ≤ room := by decide
  unfold Ey; rw [Ad ⟨by omega, Int.le_refl _, by omega⟩, An]
  have inner : ∀ k, k < L.length → At (C3 L (k : Int)) ((0 : Int), Fh L k 0) = some (Fh L k (L.getD k []).length) := fun k hk => by
    have hok := h3 k hk; refine Do (C3 L (k : Int)) (fun j => (((j : Nat) : Int), Fh L k j)) (Fh L k (L.getD k []).length) (L.getD k []).length (fun j hj => ?_) ?_
    · obtain ⟨a0, a1⟩ := Pa hok hj
      have hlen : (Fh L k j).length = L.length := by simp [Fh]
      have hl64 := It hok
      show C3 L (k : Int) (_, _) = _
      unfold C3; simp only [An, Cz hj, cond_true]; have hb : A6 ((L.getD k []).getD j 0) (Fh L k j).length := ⟨a0, by rw [hlen]; exact a1⟩
      have hrow : ((Fh L k j).getD ((L.getD k []).getD j 0).toNat []).length ≤ k + 1 := by
        unfold Fh; rw [I5 (by omega), List.length_append]; have := Kg L k ((L.getD k []).getD j 0).toNat
        split
        · rw [List.length_singleton]; omega
        · rw [List.length_nil]; omega
      rw [Ad (D3 hj), Ad hb, Ad hb, Ad (by simp only [List.length_singleton]; omega), Ad hb, Vq L h k j hk hj, w1 (by omega)]
    · show C3 L (k : Int) (_, _) = _
      unfold C3; simp only [An, Ee, cond_false]
  have r0 : ∀ k, Fh L k 0 = (List.range L.length).map (En L k) := fun k => by
    unfold Fh
    apply Gn
    intro i _; simp [I8]
  have r1 : ∀ k, Fh L k (L.getD k []).length = (List.range L.length).map (En L (k + 1)) := fun k => by
    unfold Fh
    apply Gn
    intro i _; rw [Xm]; unfold I8 Mx; rw [List.take_length]
  have : At (C5 L) ((0 : Int), (List.range L.length).map (En L 0)) = some (Dz L) := Do (C5 L) (fun k => (((k : Nat) : Int), (List.range L.length).map (En L k))) (Dz L) L.length (fun k hk => ?_) ?_
  · have e0 : (List.replicate L.length ([] : List Int)) = (List.range L.length).map (En L 0) := by
      apply List.ext_getElem?
      intro i
      by_cases hi : i < L.length <;> simp [hi, List.getElem?_replicate, En]
    rw [e0, this]; rfl
  · show C5 L (_, _) = _
    unfold C5; simp only [Cz hk, cond_true]; rw [Ad (D3 hk), ← r0, inner k hk, r1, w1 (by omega)]
    rfl
  · show C5 L (_, _) = _
    unfold C5; simp only [Ee, cond_false]
    rfl
end
end Go.Proofs.Ytjpacggpipflcaa

namespace Go.Proofs.Ytjpacggpipflcaa
noncomputable section
open Go Go.RowKit
set_option linter.unusedVariables false
set_option linter.unusedSimpArgs false
theorem K5 {α : Type} [DecidableEq α] {a b : List α} {d : α} (h : a.length = b.length) : ((List.range a.length).all fun i => decide (a.getD i d = b.getD i d)) = decide (a = b) := by
  rw [Bool.eq_iff_iff, all_range, decide_eq_true_eq]
  constructor
  · intro hall
    apply List.ext_getElem h
    intro i h1 h2; have := of_decide_eq_true (hall i h1); rwa [Ag _ _ _ h1, Ag _ _ _ h2] at this
  · rintro rfl i _
    simp
theorem Vc {a b : Nat} : (((a : Nat) : Int) != (b : Int)) = decide (a ≠ b) := by
  rw [Bool.eq_iff_iff, bne_iff_ne, decide_eq_true_eq]; omega
theorem Ur {a b : Int} : (a != b) = !decide (a = b) := by
  rw [Bool.eq_iff_iff]
  simp
theorem Aal (a b : List Int) (hb : b.length < 4611686018427387904) : Dg a b = some (decide (a = b)) := by
  unfold Dg; rw [Vc]
  by_cases hl : a.length = b.length
  · rw [decide_eq_false (by simpa using hl), cond_false]; have : At (A8 a b) (0 : Int) = _ := Gx (A8 a b) (fun j => ((j : Nat) : Int)) (fun i => decide (a.getD i 0 = b.getD i 0)) (.inl ()) (.inr false) a.length (fun j hj hp => ?_) (fun j hj hp => ?_) ?_
    · rw [this, K5 hl]
      cases decide (a = b) <;> rfl
    · show A8 a b (j : Int) = _
      unfold A8; simp only [An, Cz hj, cond_true]; rw [Ad (D3 hj), Ad (D3 (by omega)), Ur, hp, w1 (by omega)]
      rfl
    · show A8 a b (j : Int) = _
      unfold A8; simp only [An, Cz hj, cond_true]; rw [Ad (D3 hj), Ad (D3 (by omega)), Ur, hp]
      rfl
    · show A8 a b _ = _
      unfold A8; simp only [Ee, cond_false]
  · rw [decide_eq_true (by simpa using hl), cond_true, decide_eq_false (fun h => hl (by rw [h]))]
theorem m_ints (a b : List Int) (ha : a.length < 4611686018427387904) : Cs a b = some (decide (a = b)) := by
  unfold Cs; rw [Vc]
  by_cases hl : a.length = b.length
  · rw [decide_eq_false (by simpa using hl), cond_false]; have : At (Bh a b) (0 : Int) = _ := Gx (Bh a b) (fun j => ((j : Nat) : Int)) (fun i => decide (a.getD i 0 = b.getD i 0)) (.inl ()) (.inr false) a.length (fun j hj hp => ?_) (fun j hj hp => ?_) ?_
    · rw [this, K5 hl]
      cases decide (a = b) <;> rfl
    · show Bh a b (j : Int) = _
      unfold Bh; simp only [An, Cz hj, cond_true]; rw [Ad (D3 hj), Ad (D3 (by omega)), Ur, hp, w1 (by omega)]
      rfl
    · show Bh a b (j : Int) = _
      unfold Bh; simp only [An, Cz hj, cond_true]; rw [Ad (D3 hj), Ad (D3 (by omega)), Ur, hp]
      rfl
    · show Bh a b _ = _
      unfold Bh; simp only [Ee, cond_false]
  · rw [decide_eq_true (by simpa using hl), cond_true, decide_eq_false (fun h => hl (by rw [h]))]
theorem Xe (a b : List (List Int)) (hb : Fits b) : Bv a b = some (decide (a = b)) := by
  unfold Bv; rw [Vc]
  by_cases hl : a.length = b.length
  · rw [decide_eq_false (by simpa using hl), cond_false]; have hb1 := hb.1; have : At (As a b) (0 : Int) = _ := Gx (As a b) (fun j => ((j : Nat) : Int)) (fun i => decide (a.getD i [] = b.getD i [])) (.inl ()) (.inr false) a.length (fun j hj hp => ?_) (fun j hj hp => ?_) ?_
    · rw [this, K5 hl]
      cases decide (a = b) <;> rfl
    · show As a b (j : Int) = _
      unfold As; simp only [An, Cz hj, cond_true]; rw [Ad (D3 hj), Ad (D3 (by omega)), Aal _ _ (hb.at j), hp, w1 (by omega)]
      rfl
    · show As a b (j : Int) = _
      unfold As; simp only [An, Cz hj, cond_true]; rw [Ad (D3 hj), Ad (D3 (by omega)), Aal _ _ (hb.at j), hp]
      rfl
    · show As a b _ = _
      unfold As; simp only [Ee, cond_false]
  · rw [decide_eq_true (by simpa using hl), cond_true, decide_eq_false (fun h => hl (by rw [h]))]
theorem J6 (L : List (List Int)) : (Dz L).length = L.length := by simp [Dz]
theorem O0 {L : List (List Int)} {i : Nat} (hi : i < L.length) : (Dz L).getD i [] = En L L.length i := by unfold Dz; rw [I5 hi]
theorem N0 {L : List (List Int)} (h : Eu L = true) : (Dz L).length ≤ 64 ∧ ∀ l ∈ Dz L, l.length ≤ 64 := by
  obtain ⟨h1, _⟩ := L7 h; refine ⟨by rw [J6]; exact h1, fun l hl => ?_⟩; obtain ⟨i, hi, rfl⟩ := List.mem_map.1 hl; have := Kg L L.length i; omega
theorem Kh {L : List (List Int)} (h : L.length ≤ 64 ∧ ∀ l ∈ L, l.length ≤ 64) : Fits L := Aac ⟨by omega, fun l hl => by have := h.2 l hl; omega⟩
theorem small_k {L : List (List Int)} (h : L.length ≤ 64 ∧ ∀ l ∈ L, l.length ≤ 64) : L.length ≤ 1000 ∧ ∀ l ∈ L, l.length ≤ 1000 := ⟨by omega, fun l hl => by have := h.2 l hl; omega⟩
def Hs (g : Ap) : Bool := Eu g.Succ && decide (g.Pred = Dz g.Succ)
theorem m_may (g : Ap) (h : Fits g.Succ) : Gd g = some (Hs g) := by
  unfold Gd Hs; rw [Tw _ h, Option.bind_some]
  cases hm : Eu g.Succ with
  | false => rfl
  | true =>
    simp only [beq_self_eq_true, cond_true, Xz _ hm, Option.bind_some, Xe _ _ (Kh (N0 hm)), Bool.true_and]
def I4 (L : List (List Int)) : Ap := ⟨L, Dz L⟩
def g0 : Ap := ⟨[], []⟩
theorem Ym (L : List (List Int)) (h : Fits L) : Ej L = some (bif Eu L then (I4 L, 0) else (g0, 5)) := by
  unfold Ej; rw [Tw _ h, Option.bind_some]
  cases hm : Eu L with
  | false => rfl
  | true =>
    simp only [Bool.not_true, cond_false, m_copied _ (small_k (L7 hm)), Xz _ hm, Option.bind_some]
    rfl
theorem Ol {L : List (List Int)} (h : Eu L = true) : Hs (I4 L) = true := by simp [Hs, I4, h]
end
end Go.Proofs.Ytjpacggpipflcaa

namespace Go.Proofs.Ytjpacggpipflcaa
noncomputable section
open Go Go.RowKit
set_option linter.unusedVariables false
set_option linter.unusedSimpArgs false
theorem Aai {R : Type} {c : Bool} {q : Prop} [Decidable q] {k : Option R} (h : q) : Cj (c = true → q) k = k := Ad fun _ => h
theorem Nm {L : List (List Int)} (h : Eu L = true) : Fits (I4 L).Succ ∧ Fits (I4 L).Pred := ⟨Kh (L7 h), Kh (N0 h)⟩
end
end Go.Proofs.Ytjpacggpipflcaa

namespace Go.Proofs.Ytjpacggpipflcaa
noncomputable section
open Go Go.RowKit
set_option linter.unusedVariables false
set_option linter.unusedSimpArgs false
def upd (s : Nat → Bool) (y : Nat) : Nat → Bool := fun z => decide (z = y) || s z
theorem upd_true {s : Nat → Bool} {y z : Nat} : upd s y z = true ↔ z = y ∨ s z = true := by simp [upd]
theorem upd_false {s : Nat → Bool} {y z : Nat} : upd s y z = false ↔ z ≠ y ∧ s z = false := by simp [upd]
inductive VL (S : Nat → List Nat) : (Nat → Bool) → List Nat → (Nat → Bool) → List Nat → Prop
  | nil (s : Nat → Bool) : VL S s [] s []
  | skip {s s' : Nat → Bool} {y : Nat} {l o : List Nat} (h : s y = true) (t : VL S s l s' o) : VL S s (y :: l) s' o
  | step {s s1 s2 : Nat → Bool} {y : Nat} {l o1 o2 : List Nat} (h : s y = false) (a : VL S (upd s y) (S y) s1 o1) (b : VL S s1 l s2 o2) : VL S s (y :: l) s2 (o1 ++ y :: o2)
inductive Rch (S : Nat → List Nat) : Nat → Nat → Prop
  | refl (x : Nat) : Rch S x x
  | head {x y z : Nat} (h : y ∈ S x) (t : Rch S y z) : Rch S x z
theorem Rch.tail {S : Nat → List Nat} {x y z : Nat} (h : Rch S x y) (hz : z ∈ S y) : Rch S x z := by
  induction h with
  | refl x => exact .head hz (.refl _)
  | head h _ ih => exact .head h (ih hz)
theorem Rch.trans {S : Nat → List Nat} {x y z : Nat} (h : Rch S x y) (k : Rch S y z) : Rch S x z := by
  induction h with
  | refl x => exact k
  | head h _ ih => exact .head h (ih k)
variable {S : Nat → List Nat} {s s' : Nat → Bool} {l o : List Nat}
theorem VL.seen (h : VL S s l s' o) (z : Nat) : s' z = true ↔ s z = true ∨ z ∈ o := by
  induction h with
  | nil s => simp
  | skip h _ ih => exact ih
  | @step s s1 s2 y l o1 o2 h a b iha ihb =>
    rw [ihb, iha, upd_true]; simp only [List.mem_append, List.mem_cons]
    constructor
    · rintro ((( rfl | h1) | h1) | h1)
      · exact .inr (.inr (.inl rfl))
      · exact .inl h1
      · exact .inr (.inl h1)
      · exact .inr (.inr (.inr h1))
    · rintro (h1 | h1 | rfl | h1)
      · exact .inl (.inl (.inr h1))
      · exact .inl (.inr h1)
      · exact .inl (.inl (.inl rfl))
      · exact .inr h1
theorem VL.fresh (h : VL S s l s' o) {z : Nat} (hz : z ∈ o) : s z = false := by
  induction h with
  | nil s => cases hz
  | skip h _ ih => exact ih hz
  | @step s s1 s2 y l o1 o2 h a b iha ihb =>
    rcases List.mem_append.1 hz with h1 | h1
    · exact (upd_false.1 (iha h1)).2
    · rcases List.mem_cons.1 h1 with rfl | h1
      · exact h
      · have := ihb h1
        cases hs : s z with
        | false => rfl
        | true => rw [(a.seen z).2 (.inl (upd_true.2 (.inr hs)))] at this; cases this
theorem VL.nodup (h : VL S s l s' o) : o.Nodup := by
  induction h with
  | nil s => exact List.nodup_nil
  | skip h _ ih => exact ih
  | @step s s1 s2 y l o1 o2 h a b iha ihb =>
    rw [List.nodup_append]; refine ⟨iha, List.nodup_cons.2 ⟨fun hy => ?_, ihb⟩, fun u hu v hv => ?_⟩
    · have := b.fresh hy; rw [(a.seen y).2 (.inl (upd_true.2 (.inl rfl)))] at this
      cases this
    · rintro rfl; rcases List.mem_cons.1 hv with rfl | hv
      · have := a.fresh hu; rw [upd_true.2 (.inl rfl)] at this
        cases this
      · have := b.fresh hv; rw [(a.seen u).2 (.inr hu)] at this
        cases this
theorem VL.rch (h : VL S s l s' o) {z : Nat} (hz : z ∈ o) : ∃ y ∈ l, Rch S y z := by
  induction h with
  | nil s => cases hz
  | skip h _ ih => obtain ⟨y, hy, hr⟩ := ih hz; exact ⟨y, List.mem_cons_of_mem _ hy, hr⟩
  | @step s s1 s2 y l o1 o2 h a b iha ihb =>
    rcases List.mem_append.1 hz with h1 | h1
    · obtain ⟨u, hu, hr⟩ := iha h1; exact ⟨y, List.mem_cons_self .., .head hu hr⟩
    · rcases List.mem_cons.1 h1 with rfl | h1
      · exact ⟨z, List.mem_cons_self .., .refl z⟩
      · obtain ⟨u, hu, hr⟩ := ihb h1; exact ⟨u, List.mem_cons_of_mem _ hu, hr⟩
theorem VL.closed (h : VL S s l s' o) : (∀ y ∈ l, s' y = true) ∧ ∀ z ∈ o, ∀ y ∈ S z, s' y = true := by
  induction h with
  | nil s => exact ⟨(fun _ h => by cases h), (fun _ h => by cases h)⟩
  | @skip s s' y l o h t ih =>
    refine ⟨fun u hu => ?_, ih.2⟩; rcases List.mem_cons.1 hu with rfl | hu
    · exact (t.seen u).2 (.inl h)
    · exact ih.1 u hu
  | @step s s1 s2 y l o1 o2 h a b iha ihb =>
    refine ⟨fun u hu => ?_, fun z hz u hu => ?_⟩
    · rcases List.mem_cons.1 hu with rfl | hu
      · exact (b.seen u).2 (.inl ((a.seen u).2 (.inl (upd_true.2 (.inl rfl)))))
      · exact ihb.1 u hu
    · rcases List.mem_append.1 hz with h1 | h1
      · exact (b.seen u).2 (.inl (iha.2 z h1 u hu))
      · rcases List.mem_cons.1 h1 with rfl | h1
        · exact (b.seen u).2 (.inl (iha.1 u hu))
        · exact ihb.2 z h1 u hu
theorem VL.above (h : VL S s l s' o) (hf : ∀ z, ∀ y ∈ S z, z < y) {b : Nat} (hb : ∀ y ∈ l, b < y) : ∀ z ∈ o, b < z := by
  induction h generalizing b with
  | nil s => intro z hz; cases hz
  | skip h _ ih => exact ih (fun y hy => hb y (List.mem_cons_of_mem _ hy))
  | @step s s1 s2 y l o1 o2 h a c iha ihb =>
    intro z hz; have hy := hb y (List.mem_cons_self ..); rcases List.mem_append.1 hz with h1 | h1
    · exact iha (fun u hu => Nat.lt_trans hy (hf y u hu)) z h1
    · rcases List.mem_cons.1 h1 with rfl | h1
      · exact hy
      · exact ihb (fun u hu => hb u (List.mem_cons_of_mem _ hu)) z h1
theorem VL.ahead (h : VL S s l s' o) (hf : ∀ z, ∀ y ∈ S z, z < y) : ∀ z ∈ o, ∀ y ∈ S z, s y = true ∨ ∃ A B, o = A ++ z :: B ∧ y ∈ A := by
  induction h with
  | nil s => intro z hz; cases hz
  | skip h _ ih => exact ih
  | @step s s1 s2 y l o1 o2 h a c iha ihb =>
    intro z hz u hu; rcases List.mem_append.1 hz with h1 | h1
    · have hzy : y < z := a.above hf (fun v hv => hf y v hv) z h1; have hzu := hf z u hu; rcases iha z h1 u hu with h2 | ⟨A, B, rfl, hA⟩
      · rcases upd_true.1 h2 with rfl | h2
        · omega
        · exact .inl h2
      · exact .inr ⟨A, B ++ y :: o2, by simp, hA⟩
    · rcases List.mem_cons.1 h1 with rfl | h1z
      · have hzu := hf z u hu; rcases (a.seen u).1 (a.closed.1 u hu) with h2 | h2
        · rcases upd_true.1 h2 with rfl | h2
          · omega
          · exact .inl h2
        · exact .inr ⟨o1, o2, rfl, h2⟩
      · rcases ihb z h1z u hu with h2 | ⟨A, B, rfl, hA⟩
        · rcases (a.seen u).1 h2 with h3 | h3
          · rcases upd_true.1 h3 with rfl | h3
            · obtain ⟨P, Q, rfl⟩ := List.append_of_mem h1z; exact .inr ⟨o1 ++ u :: P, Q, by simp, by simp⟩
            · exact .inl h3
          · obtain ⟨P, Q, rfl⟩ := List.append_of_mem h1z; exact .inr ⟨o1 ++ y :: P, Q, by simp, by simp [h3]⟩
        · exact .inr ⟨o1 ++ y :: A, B, by simp, by simp [hA]⟩
def S8 (n : Nat) (s : Nat → Bool) : Nat := ((List.range n).filter fun z => !s z).length
theorem Kb {n : Nat} {s : Nat → Bool} {y : Nat} (hy : y < n) (h : s y = false) : S8 n (upd s y) + 1 = S8 n s := by
  unfold S8
  induction n with
  | zero => omega
  | succ n ih =>
    rw [List.range_succ, List.filter_append, List.filter_append, List.length_append, List.length_append]
    by_cases hyn : y = n
    · subst hyn
      have e : (List.range y).filter (fun z => !upd s y z) = (List.range y).filter (fun z => !s z) := by
        apply List.filter_congr
        intro z hz; have := List.mem_range.1 hz; simp [upd, show z ≠ y by omega]
      rw [e]; simp [upd, h]
    · have := ih (by omega)
      have e : ([n].filter fun z => !upd s y z).length = ([n].filter fun z => !s z).length := by
        simp only [List.filter_cons, List.filter_nil, upd]; simp [Ne.symm hyn]
      omega
theorem Wn {n : Nat} {s s' : Nat → Bool} (h : ∀ z, s z = true → s' z = true) : S8 n s' ≤ S8 n s := by
  unfold S8
  apply List.Sublist.length_le
  have : (List.range n).filter (fun z => !s' z) = ((List.range n).filter fun z => !s z).filter fun z => !s' z := by
    rw [List.filter_filter]
    apply List.filter_congr
    intro z _
    cases hs : s z with
    | false => simp
    | true => simp [h z hs]
  rw [this]; exact List.filter_sublist
theorem VL.exist {n : Nat} (hS : ∀ z, z < n → ∀ y ∈ S z, y < n) : ∀ (m : Nat) (s : Nat → Bool), S8 n s ≤ m → ∀ l : List Nat, (∀ y ∈ l, y < n) → ∃ s' o, VL S s l s' o := by
  intro m
  induction m with
  | zero =>
    intro s hm l
    induction l with
    | nil => intro _; exact ⟨s, [], .nil s⟩
    | cons y l ih =>
      intro hl; obtain ⟨s', o, h⟩ := ih (fun z hz => hl z (List.mem_cons_of_mem _ hz))
      cases hy : s y with
      | true => exact ⟨s', o, .skip hy h⟩
      | false => have := Kb (hl y (List.mem_cons_self ..)) hy; omega
  | succ m ih =>
    intro s hm l
    induction l generalizing s with
    | nil => intro _; exact ⟨s, [], .nil s⟩
    | cons y l ihl =>
      intro hl
      cases hy : s y with
      | true =>
        obtain ⟨s', o, h⟩ := ihl s hm (fun z hz => hl z (List.mem_cons_of_mem _ hz)); exact ⟨s', o, .skip hy h⟩
      | false =>
        have hyn := hl y (List.mem_cons_self ..); have := Kb hyn hy; obtain ⟨s1, o1, h1⟩ := ih (upd s y) (by omega) (S y) (hS y hyn); have h2 : S8 n s1 ≤ S8 n s := Wn fun z hz => (h1.seen z).2 (.inl (upd_true.2 (.inr hz))); obtain ⟨s2, o2, h3⟩ := ihl s1 (by omega) (fun z hz => hl z (List.mem_cons_of_mem _ hz)); exact ⟨s2, _, .step hy h1 h3⟩
def one (r : Nat) : Nat → Bool := fun z => decide (z = r)
def Ord (S : Nat → List Nat) (r : Nat) (L : List Nat) : Prop := ∃ s' o, VL S (one r) (S r) s' o ∧ L = r :: o.reverse
theorem Ord.exist {n : Nat} (hS : ∀ z, z < n → ∀ y ∈ S z, y < n) {r : Nat} (hr : r < n) : ∃ L, Ord S r L := by
  obtain ⟨s', o, h⟩ := VL.exist hS _ (one r) (Nat.le_refl _) (S r) (hS r hr); exact ⟨_, s', o, h, rfl⟩
theorem Ord.mem {r : Nat} {L : List Nat} (h : Ord S r L) (z : Nat) : z ∈ L ↔ Rch S r z := by
  obtain ⟨s', o, h, rfl⟩ := h
  have hs : ∀ z, s' z = true ↔ z = r ∨ z ∈ o := fun z => by rw [h.seen]; simp [one]
  have hc : ∀ x, s' x = true → ∀ y ∈ S x, s' y = true := fun x hx y hy => by
    rcases (hs x).1 hx with rfl | hx
    · exact h.closed.1 y hy
    · exact h.closed.2 x hx y hy
  simp only [List.mem_cons, List.mem_reverse]; rw [← hs z]
  constructor
  · intro hz; rcases (hs z).1 hz with rfl | hz
    · exact .refl _
    · obtain ⟨y, hy, hr⟩ := h.rch hz; exact .head hy hr
  · intro hr
    have key : ∀ x z, Rch S x z → s' x = true → s' z = true := by
      intro x z hxz
      induction hxz with
      | refl x => exact id
      | head hy _ ih => exact fun hx => ih (hc _ hx _ hy)
    exact key r z hr ((hs r).2 (.inl rfl))
theorem Ord.nodup {r : Nat} {L : List Nat} (h : Ord S r L) : L.Nodup := by
  obtain ⟨s', o, h, rfl⟩ := h; refine List.nodup_cons.2 ⟨fun hr => ?_, (List.reverse_perm o).nodup_iff.2 h.nodup⟩; have := h.fresh (List.mem_reverse.1 hr); simp [one] at this
theorem Ord.fwd {r : Nat} {L : List Nat} (h : Ord S r L) (hf : ∀ z, ∀ y ∈ S z, z < y) : ∀ z ∈ L, ∀ y ∈ S z, ∃ A B, L = A ++ z :: B ∧ y ∈ B := by
  obtain ⟨s', o, h, rfl⟩ := h; intro z hz y hy; have hzy := hf z y hy; rcases List.mem_cons.1 hz with rfl | hz
  · refine ⟨[], o.reverse, rfl, ?_⟩; rcases (h.seen y).1 (h.closed.1 y hy) with h1 | h1
    · simp [one] at h1; omega
    · exact List.mem_reverse.2 h1
  · have hz := List.mem_reverse.1 hz; have hrz : r < z := h.above hf (fun v hv => hf r v hv) z hz; rcases h.ahead hf z hz y hy with h1 | ⟨A, B, rfl, hA⟩
    · simp [one] at h1; omega
    · exact ⟨r :: B.reverse, A.reverse, by simp, List.mem_reverse.2 hA⟩
end
end Go.Proofs.Ytjpacggpipflcaa

namespace Go.Proofs.Ytjpacggpipflcaa
noncomputable section
open Go Go.RowKit
set_option linter.unusedVariables false
set_option linter.unusedSimpArgs false
theorem m_reverse (l : List Int) (hl : l.length < 4611686018427387904) : Cn l = some l.reverse := by
  unfold Cn
  by_cases h0 : l.length = 0
  · obtain rfl : l = [] := List.length_eq_zero_iff.1 h0
    have : At A5 ((0 : Int), (Bg ((([] : List Int).length : Int) - 1)), ([] : List Int)) = some [] := by
      apply A7
      unfold A5; rw [Lx (by simp) (by simp)]
      rfl
    rw [this]; rfl
  · have hw : Bg ((l.length : Int) - 1) = ((l.length - 1 : Nat) : Int) := by rw [Lx (by omega) (by omega)]; omega
    rw [hw]
    let C : Nat → List Int := fun k => (List.range l.length).map fun i => if i < k ∨ l.length - 1 - k < i then l.getD (l.length - 1 - i) 0 else l.getD i 0
    have hC : ∀ k i, i < l.length → (C k).getD i 0 = if i < k ∨ l.length - 1 - k < i then l.getD (l.length - 1 - i) 0 else l.getD i 0 := fun k i hi => by simp only [C]; rw [I5 hi]
    have hlen : ∀ k, (C k).length = l.length := fun k => by simp [C]
    have := Do A5 (fun k => (((k : Nat) : Int), ((l.length - 1 - k : Nat) : Int), C k)) l.reverse (l.length / 2) (fun k hk => ?_) ?_
    · have e0 : C 0 = l := by
        apply List.ext_getElem (by simp [C])
        intro i h1 h2; have := hC 0 i h2; rw [Ag _ _ _ h1, Ag _ _ _ h2] at this; rw [this, if_neg (by omega)]
      have this' : At A5 ((0 : Int), ((l.length - 1 : Nat) : Int), l) = some l.reverse := by
        have h2 := this; simp only [e0] at h2; exact h2
      rw [this']; rfl
    · show A5 (_, _, _) = _
      unfold A5
      have hlt : k < l.length - 1 - k := by omega
      simp only [Cz hlt, cond_true, An]; rw [Ad (D3 (by rw [hlen]; omega)), Ad (D3 (by rw [hlen]; omega)), Ad (D3 (by rw [hlen]; omega)), Ad (D3 (by rw [hlen]; omega))]; rw [w1 (by omega), show Bg (((l.length - 1 - k : Nat) : Int) - 1) = ((l.length - 1 - (k + 1) : Nat) : Int) by rw [Lx (by omega) (by omega)]; omega]
      congr 4
      rw [hC k _ (by omega), hC k _ (by omega), if_neg (by omega), if_neg (by omega)]; simp only [C]; rw [Oq, Oq]
      apply Gn
      intro i hi
      by_cases h1 : i = k
      · subst h1; rw [if_neg (by omega), if_pos rfl, if_pos (by omega)]
      · by_cases h2 : i = l.length - 1 - k
        · subst h2; rw [if_pos rfl, if_pos (by omega)]
          congr 1; omega
        · rw [if_neg h2, if_neg h1]
          by_cases h3 : i < k ∨ l.length - 1 - k < i
          · rw [if_pos h3, if_pos (by omega)]
          · rw [if_neg h3, if_neg (by omega)]
    · show A5 (_, _, _) = _
      unfold A5; have hd : decide (((l.length / 2 : Nat) : Int) < ((l.length - 1 - l.length / 2 : Nat) : Int)) = false := decide_eq_false (by omega); simp only [hd, cond_false]
      congr 2
      apply List.ext_getElem (by simp [C])
      intro i h1 h2
      have h3 : i < l.length := by simpa [C] using h1
      have := hC (l.length / 2) i h3; rw [Ag _ _ _ h1] at this; rw [this, List.getElem_reverse]
      split
      · rw [Ag _ _ _ (by omega)]
      · rw [Ag _ _ _ h3]
        congr 1; omega
theorem top {st : List Int} {a : Int} (h : st.length < 4611686018427387904) : (st ++ [a]).getD (Bg (((st ++ [a]).length : Int) - 1)).toNat 0 = a := by
  have : Bg (((st ++ [a]).length : Int) - 1) = ((st.length : Nat) : Int) := by rw [List.length_append, List.length_singleton, Lx (by omega) (by omega)]; omega
  rw [this, An]; simp [List.getD]
theorem topi {st : List Int} {a : Int} (h : st.length < 4611686018427387904) : Bg (((st ++ [a]).length : Int) - 1) = ((st.length : Nat) : Int) := by
  rw [List.length_append, List.length_singleton, Lx (by omega) (by omega)]; omega
theorem L2_done {g : Ap} {R : List Bool} {st T : List Int} {a : Nat} (hst : st.length < 64) (ha : a < g.Succ.length) (h64 : g.Succ.length ≤ 64) (ht : T.getD a 0 = ((g.Succ.getD a []).length : Int)) :
    Dp g R (st ++ [(a : Int)]) T = some (.done (.inl T)) := by
  unfold Dp; simp only [top (st := st) (a := (a : Int)) (by omega), An]; rw [Ad (D3 (by omega)), Ad (D3 ha), ht, Ee, cond_false]
theorem Z9 {g : Ap} {R : List Bool} {st T : List Int} {a t y : Nat} (hst : st.length < 64) (ha : a < g.Succ.length) (h64 : g.Succ.length ≤ 64) (ht : T.getD a 0 = (t : Int)) (htl : t < (g.Succ.getD a []).length) (htm : t < 64)
    (hy : (g.Succ.getD a []).getD t 0 = (y : Int)) (hyn : y < g.Succ.length) :
    Dp g R (st ++ [(a : Int)]) T = bif R.getD y false then some (.next (Dm 64 (0 : Int) T a ((t + 1 : Nat) : Int))) else some (.done (.inr (Dm 64 false R y true, Dm 64 (0 : Int) T a ((t + 1 : Nat) : Int), (st ++ [(a : Int)]) ++ [(y : Int)]))) := by
  have hroom : (1000 : Nat) ≤ room := by decide
  unfold Dp; simp only [top (st := st) (a := (a : Int)) (by omega), An, ht, hy]; rw [Ad (D3 (by omega)), Ad (D3 ha), Cz htl, cond_true, Ad (D3 ha), Ad (D3 (by omega)), Ad (D3 htl), Ad (D3 (by omega)), Ad (D3 (by omega)), Ad (D3 (by omega)), w1 (by omega)]
  cases R.getD y false with
  | true => rfl
  | false =>
    simp only [Bool.not_false, cond_true, cond_false]; rw [Ad (D3 (by omega)), Ad (by rw [List.length_append, List.length_singleton, List.length_singleton]; omega)]
theorem F3_eq {g : Ap} {R : List Bool} {st T Lf : List Int} {a : Nat} (hst : st.length < 64) (hLf : Lf.length < 64) :
    B8 g (R, T, st ++ [(a : Int)], Lf) = (At (Dp g R (st ++ [(a : Int)])) T).bind fun x => match x with
      | .inl T' => if st = [] then some (.done (Lf ++ [(a : Int)]).reverse) else some (.next (R, T', st, Lf ++ [(a : Int)]))
      | .inr (R', T', st') => some (.next (R', T', st', Lf)) := by
  have hroom : (1000 : Nat) ≤ room := by decide
  unfold B8; simp only
  have hb : A6 (Bg (((st ++ [(a : Int)]).length : Int) - 1)) (st ++ [(a : Int)]).length := by rw [topi (by omega)]; exact D3 (by simp)
  rw [Ad hb]
  congr 1
  funext x
  cases x with
  | inr y => obtain ⟨R', T', st'⟩ := y; rfl
  | inl T' =>
    simp only [top (st := st) (a := (a : Int)) (by omega)]; rw [topi (by omega), An, Ad (by rw [List.length_singleton]; omega), Ad ⟨by omega, by simp⟩]; have e : (st ++ [(a : Int)]).take st.length = st := List.take_left' rfl; rw [e]
    cases st with
    | nil =>
      rw [if_pos rfl]
      have : decide ((0 : Int) < (([] : List Int).length : Int)) = false := by decide
      rw [this, cond_false, m_reverse _ (by simp; omega)]; simp only [Option.bind_some]; rw [Ad (by simp)]
    | cons b st' =>
      rw [if_neg (by simp)]; have : decide ((0 : Int) < ((b :: st').length : Int)) = true := decide_eq_true (by simp <;> omega); rw [this, cond_true]
theorem Ys {S X : Type} {f : S → Option (LR S X)} {a b : S} (h : f a = f b) : At f a = At f b := by
  cases hb : f b with
  | none => rw [M5 (h.trans hb), M5 hb]
  | some r => cases r with
    | done x => rw [A7 (h.trans hb), A7 hb]
    | next s => rw [Bs (h.trans hb), Bs hb]
theorem Lo {S X : Type} {f : S → Option (LR S X)} {s : S} : J7 (f s) f = At f s := by
  unfold J7
  cases hb : f s with
  | none => rw [M5 hb]; rfl
  | some r => cases r with
    | done x => rw [A7 hb]; rfl
    | next s' => rw [Bs hb]; rfl
def sN (L : List (List Int)) (k : Nat) : List Nat := (L.getD k []).map Int.toNat
def RelS (R : List Bool) (s : Nat → Bool) : Prop := ∀ z, z < 64 → R.getD z false = s z
theorem Gj {α : Type} {d : α} {l : List α} {i : Nat} {x : α} {k : Nat} (hk : k < 64) : (Dm 64 d l i x).getD k d = if k = i then x else l.getD k d := by
  rw [Tl hk]
  by_cases h : k = i
  · subst h; simp
  · have : Nat.beq k i = false := by cases hb : Nat.beq k i with | false => rfl | true => exact absurd (Nat.eq_of_beq_eq_true hb) h
    rw [this, if_neg h]; rfl
theorem RelS.set {R : List Bool} {s : Nat → Bool} (h : RelS R s) {y : Nat} : RelS (Dm 64 false R y true) (upd s y) := fun z hz => by
  rw [Gj hz, h z hz]
  by_cases hzy : z = y
  · simp [upd, hzy]
  · simp [upd, hzy]
def Ft (o : List Nat) : List Int := o.map Int.ofNat
theorem Zs {g : Ap} (hm : Eu g.Succ = true) {s s' : Nat → Bool} {l o : List Nat} (hv : VL (sN g.Succ) s l s' o) :
    ∀ (R : List Bool) (T st Lf : List Int) (a t : Nat), RelS R s → a < g.Succ.length → l = (sN g.Succ a).drop t → T.getD a 0 = (t : Int) → t ≤ (sN g.Succ a).length → s a = true → (∀ z, z < 64 → s z = false → T.getD z 0 = 0) →
      Lf.length + S8 64 s + st.length + 1 ≤ 64 →
      ∃ (R' : List Bool) (T' : List Int), RelS R' s' ∧ (∀ z, z < 64 → s' z = false → T'.getD z 0 = 0) ∧ (∀ z, z < 64 → s z = true → z ≠ a → T'.getD z 0 = T.getD z 0) ∧ Lf.length + o.length + S8 64 s' + st.length + 1 ≤ 64 ∧
        At (B8 g) (R, T, st ++ [(a : Int)], Lf) = if st = [] then some (Lf ++ Ft o ++ [(a : Int)]).reverse else At (B8 g) (R', T', st, Lf ++ Ft o ++ [(a : Int)]) := by
  obtain ⟨hL1, hL64, hLok⟩ := mayS_iff.1 hm
  have hlenS : ∀ a, (sN g.Succ a).length = (g.Succ.getD a []).length := fun a => by simp [sN]
  have hdrop : ∀ (a t y : Nat) (l' : List Nat), a < g.Succ.length → y :: l' = (sN g.Succ a).drop t → t < (g.Succ.getD a []).length ∧ (g.Succ.getD a []).getD t 0 = (y : Int) ∧ y < g.Succ.length ∧ l' = (sN g.Succ a).drop (t + 1) := fun a t y l' ha he => by
    have ht : t < (sN g.Succ a).length := by
      rcases Nat.lt_or_ge t (sN g.Succ a).length with h | h
      · exact h
      · rw [List.drop_eq_nil_of_le h] at he; cases he
    rw [List.drop_eq_getElem_cons ht] at he; simp only [List.cons.injEq] at he; obtain ⟨h1, h2⟩ := he
    have ht' : t < (g.Succ.getD a []).length := by rw [← hlenS]; exact ht
    obtain ⟨b0, b1⟩ := Pa (hLok a ha) ht'
    have h3 : (sN g.Succ a)[t] = ((g.Succ.getD a []).getD t 0).toNat := by rw [Ag _ _ _ ht']; simp [sN]
    exact ⟨ht', by omega, by omega, h2⟩
  induction hv with
  | nil s =>
    intro R T st Lf a t hR ha hl hT htl hsa hz hc
    have ht : t = (g.Succ.getD a []).length := by
      have := congrArg List.length hl; simp at this; rw [hlenS] at htl this; omega
    refine ⟨R, T, hR, hz, fun _ _ _ _ => rfl, by simpa using hc, ?_⟩
    have hF : B8 g (R, T, st ++ [(a : Int)], Lf) = if st = [] then some (.done (Lf ++ [(a : Int)]).reverse) else some (.next (R, T, st, Lf ++ [(a : Int)])) := by
      rw [F3_eq (by omega) (by omega), A7 (L2_done (by omega) ha hL64 (by rw [hT, ht]))]
      rfl
    by_cases hst : st = []
    · rw [if_pos hst] at hF ⊢; rw [A7 hF]; simp [Ft]
    · rw [if_neg hst] at hF ⊢; rw [Bs hF]; simp [Ft]
  | @skip s s' y l o h tl ih =>
    intro R T st Lf a t hR ha hl hT htl hsa hz hc; obtain ⟨h1, h2, h3, h4⟩ := hdrop a t y l ha hl; have hb := It (hLok a ha); have hs := Z9 (g := g) (R := R) (st := st) (T := T) (a := a) (t := t) (y := y) (by omega) ha hL64 hT h1 (by omega) h2 h3; rw [hR y (by omega), h, cond_true] at hs; obtain ⟨R', T', a1, a2, a3, a4, a5⟩ := ih R (Dm 64 (0 : Int) T a ((t + 1 : Nat) : Int)) st Lf a (t + 1) hR ha h4 (by rw [Gj (by omega), if_pos rfl]) (by rw [hlenS]; omega) hsa
      (fun z hz1 hz2 => by rw [Gj hz1, if_neg (by rintro rfl; rw [hsa] at hz2; cases hz2)]; exact hz z hz1 hz2) hc
    refine ⟨R', T', a1, a2, fun z hz1 hz2 hz3 => by rw [a3 z hz1 hz2 hz3, Gj hz1, if_neg hz3], a4, ?_⟩; rw [← a5]
    apply Ys
    rw [F3_eq (by omega) (by omega), F3_eq (by omega) (by omega), Bs hs]
  | @step s s1 s2 y l o1 o2 h tl tr ih1 ih2 =>
    intro R T st Lf a t hR ha hl hT htl hsa hz hc; obtain ⟨h1, h2, h3, h4⟩ := hdrop a t y l ha hl; have hb := It (hLok a ha)
    have hay : y ≠ a := by rintro rfl; rw [hsa] at h; cases h
    have hs := Z9 (g := g) (R := R) (st := st) (T := T) (a := a) (t := t) (y := y) (by omega) ha hL64 hT h1 (by omega) h2 h3; rw [hR y (by omega), h, cond_false] at hs; have hcu := Kb (n := 64) (show y < 64 by omega) h
    have hF : B8 g (R, T, st ++ [(a : Int)], Lf) = some (.next (Dm 64 false R y true, Dm 64 (0 : Int) T a ((t + 1 : Nat) : Int), (st ++ [(a : Int)]) ++ [(y : Int)], Lf)) := by
      rw [F3_eq (by omega) (by omega), A7 hs]
      rfl
    obtain ⟨R1, T1, b1, b2, b3, b4, b5⟩ := ih1 (Dm 64 false R y true) (Dm 64 (0 : Int) T a ((t + 1 : Nat) : Int)) (st ++ [(a : Int)]) Lf y 0 hR.set h3 (by simp)
      (by rw [Gj (by omega), if_neg hay]; exact hz y (by omega) h) (Nat.zero_le _) (upd_true.2 (.inl rfl))
      (fun z hz1 hz2 => by
        obtain ⟨c1, c2⟩ := upd_false.1 hz2; rw [Gj hz1, if_neg (by rintro rfl; rw [hsa] at c2; cases c2)]
        exact hz z hz1 c2) (by rw [List.length_append, List.length_singleton]; omega)
    rw [if_neg (by simp)] at b5
    have hTa : T1.getD a 0 = ((t + 1 : Nat) : Int) := by rw [b3 a (by omega) (upd_true.2 (.inr hsa)) (Ne.symm hay), Gj (by omega), if_pos rfl]
    rw [List.length_append, List.length_singleton] at b4; obtain ⟨R2, T2, c1, c2, c3, c4, c5⟩ := ih2 R1 T1 st (Lf ++ Ft o1 ++ [(y : Int)]) a (t + 1) b1 ha h4 hTa (by rw [hlenS]; omega) ((tl.seen a).2 (.inl (upd_true.2 (.inr hsa)))) b2
      (by simp only [List.length_append, List.length_singleton, Ft, List.length_map]; omega)
    refine ⟨R2, T2, c1, c2, fun z hz1 hz2 hz3 => ?_, ?_, ?_⟩
    · rw [c3 z hz1 ((tl.seen z).2 (.inl (upd_true.2 (.inr hz2)))) hz3, b3 z hz1 (upd_true.2 (.inr hz2)) (by rintro rfl; rw [h] at hz2; cases hz2), Gj hz1, if_neg hz3]
    · simp only [List.length_append, List.length_singleton, Ft, List.length_map, List.length_cons] at c4 ⊢; omega
    · rw [Bs hF, b5, c5]
      have e : Lf ++ Ft o1 ++ [(y : Int)] ++ Ft o2 ++ [(a : Int)] = Lf ++ Ft (o1 ++ y :: o2) ++ [(a : Int)] := by simp [Ft]
      rw [e]
theorem Is {L : List (List Int)} (h : Eu L = true) : ∀ z, z < L.length → ∀ y ∈ sN L z, y < L.length := fun z hz y hy => by
  obtain ⟨_, _, h3⟩ := mayS_iff.1 h; obtain ⟨x, hx, rfl⟩ := List.mem_map.1 hy; have := Hw (h3 z hz) hx; omega
theorem cnt_one {r : Nat} (hr : r < 64) : S8 64 (one r) = 63 := by
  have h := Kb (n := 64) (s := fun _ => false) hr rfl
  have e : upd (fun _ => false) r = one r := by funext z; simp [upd, one]
  rw [e] at h
  have : S8 64 (fun _ => false) = 64 := by decide
  omega
theorem F5 {α : Type} {n z : Nat} {d : α} : (List.replicate n d).getD z d = d := by rw [List.getD_eq_getElem?_getD, List.getElem?_replicate]; split <;> rfl
theorem Oc (g : Ap) (h : Fits g.Succ) (hP : True) (r : Int) :
    (Hs g = true → 0 ≤ r → r < (g.Succ.length : Int) → ∀ L, Ord (sN g.Succ) r.toNat L → Co g r = some (Ft L)) ∧
    ((Hs g && (decide (0 ≤ r) && decide (r < (g.Succ.length : Int)))) = false → Co g r = some []) := by
  refine ⟨fun hm h0 h1 L hL => ?_, fun hf => ?_⟩
  · have hms : Eu g.Succ = true := by unfold Hs at hm; exact (Bool.and_eq_true _ _ ▸ hm).1
    obtain ⟨hL1, hL64, hLok⟩ := mayS_iff.1 hms; obtain ⟨s', o, hv, rfl⟩ := hL; have hrn : ((r.toNat : Nat) : Int) = r := Int.toNat_of_nonneg h0
    have hr : r.toNat < g.Succ.length := by omega
    obtain ⟨R', T', _, _, _, _, hmain⟩ := Zs hms hv (Dm 64 false (List.replicate 64 false) r.toNat true) (List.replicate 64 (0 : Int)) [] [] r.toNat 0
      (fun z hz => by rw [Gj hz, F5]; by_cases hzr : z = r.toNat <;> simp [one, hzr]) hr (by simp) F5 (Nat.zero_le _) (by simp [one])
      (fun z hz _ => F5) (by rw [cnt_one (by omega)]; simp)
    rw [if_pos rfl, hrn] at hmain; unfold Co; rw [m_may _ h, hm, Option.bind_some]; simp only [Bool.not_true, beq_self_eq_true, cond_true, cond_false, Ma, decide_eq_true h0, decide_eq_true h1, Bool.and_self, Option.bind_some]; rw [Ad ⟨h0, by omega⟩]; have hF : ∀ X, At (B8 g) (Dm 64 false (List.replicate 64 false) r.toNat true, List.replicate 64 (0 : Int), [] ++ [r], []) = some X →
        (J7 (B8 g (Dm 64 false (List.replicate 64 false) r.toNat true, List.replicate 64 (0 : Int), [r], [])) (B8 g)).bind (fun x => some x) = some X := fun X hX => by
      rw [Lo]; rw [List.nil_append] at hX; rw [hX]; rfl
    refine (hF _ hmain).trans ?_; simp only [List.nil_append, List.reverse_append, Ft, List.map_cons, List.map_reverse, List.reverse_cons, List.reverse_nil]
    simp
    omega
  · unfold Co; rw [m_may _ h, Option.bind_some]
    cases hm : Hs g with
    | false => rfl
    | true =>
      rw [hm, Bool.true_and] at hf; simp only [Bool.not_true, beq_self_eq_true, cond_true, cond_false, Ma, hf, Option.bind_some, Bool.not_false]
      rfl
end
end Go.Proofs.Ytjpacggpipflcaa

namespace Go.Proofs.Ytjpacggpipflcaa
noncomputable section
open Go Go.RowKit
set_option linter.unusedVariables false
set_option linter.unusedSimpArgs false
def RelN (n : Nat) (R : List Bool) (s : Nat → Bool) : Prop := R.length = n ∧ ∀ z, z < n → R.getD z false = s z
theorem RelN.set {n : Nat} {R : List Bool} {s : Nat → Bool} (h : RelN n R s) {y : Nat} (hy : y < n) : RelN n (R.set y true) (upd s y) := by
  refine ⟨by rw [List.length_set]; exact h.1, fun z hz => ?_⟩; rw [List.getD_eq_getElem?_getD, List.getElem?_set]
  by_cases hzy : y = z
  · subst hzy; simp [upd, h.1, hy]
  · rw [if_neg hzy, ← List.getD_eq_getElem?_getD, h.2 z hz]; simp [upd, Ne.symm hzy]
theorem G7 : ∀ (n : Nat) (l : List Nat), l.Nodup → (∀ x ∈ l, x < n) → l.length ≤ n
  | 0, l, _, h => by
    cases l with
    | nil => simp
    | cons x l => have := h x (List.mem_cons_self ..); omega
  | n + 1, l, hd, h => by
    by_cases hn : n ∈ l
    · have h1 := G7 n (l.erase n) (hd.erase n) fun x hx => by
        have h2 := (hd.mem_erase_iff).1 hx; have := h x h2.2; have := h2.1; omega
      rw [List.length_erase_of_mem hn] at h1; omega
    · have h1 := G7 n l hd fun x hx => by
        have := h x hx
        have : x ≠ n := by rintro rfl; exact hn hx
        omega
      omega
end
end Go.Proofs.Ytjpacggpipflcaa

namespace Go.Proofs.Ytjpacggpipflcaa
noncomputable section
open Go Go.RowKit
set_option linter.unusedVariables false
set_option linter.unusedSimpArgs false
end
end Go.Proofs.Ytjpacggpipflcaa

namespace Go.Proofs.Ytjpacggpipflcaa
noncomputable section
open Go Go.RowKit
set_option linter.unusedVariables false
set_option linter.unusedSimpArgs false
theorem M4 : ∀ {a b : List Int}, a.Pairwise (· < ·) → b.Pairwise (· < ·) → (∀ x, x ∈ a ↔ x ∈ b) → a = b
  | [], [], _, _, _ => rfl
  | [], y :: b, _, _, h => by have := (h y).2 (List.mem_cons_self ..); cases this
  | x :: a, [], _, _, h => by have := (h x).1 (List.mem_cons_self ..); cases this
  | x :: a, y :: b, ha, hb, h => by
    have ha' := List.pairwise_cons.1 ha; have hb' := List.pairwise_cons.1 hb
    have hxy : x = y := by
      rcases List.mem_cons.1 ((h x).1 (List.mem_cons_self ..)) with h1 | h1
      · exact h1
      · rcases List.mem_cons.1 ((h y).2 (List.mem_cons_self ..)) with h2 | h2
        · exact h2.symm
        · have := ha'.1 y h2; have := hb'.1 x h1; omega
    subst hxy
    congr 1
    refine M4 ha'.2 hb'.2 fun z => ⟨fun hz => ?_, fun hz => ?_⟩
    · rcases List.mem_cons.1 ((h z).1 (List.mem_cons_of_mem _ hz)) with rfl | h1
      · have := ha'.1 z hz; omega
      · exact h1
    · rcases List.mem_cons.1 ((h z).2 (List.mem_cons_of_mem _ hz)) with rfl | h1
      · have := hb'.1 z hz; omega
      · exact h1
theorem Ld (p : Nat → Bool) (n : Nat) : (((List.range n).filter p).map Int.ofNat).Pairwise (· < ·) := by
  rw [List.pairwise_map]; have := (List.pairwise_lt_range (n := n)).filter p
  exact this.imp fun h => by simpa using h
theorem K2 {p : Nat → Bool} {n : Nat} {x : Int} : x ∈ ((List.range n).filter p).map Int.ofNat ↔ ∃ k : Nat, x = (k : Int) ∧ k < n ∧ p k = true := by
  simp only [List.mem_map, List.mem_filter, List.mem_range]
  constructor
  · rintro ⟨k, ⟨h1, h2⟩, rfl⟩; exact ⟨k, rfl, h1, h2⟩
  · rintro ⟨k, rfl, h1, h2⟩; exact ⟨k, ⟨h1, h2⟩, rfl⟩
theorem N2 {L : List (List Int)} {k i : Nat} : Mx L k i = true ↔ (i : Int) ∈ L.getD k [] := by unfold Mx; rw [List.contains_iff_mem]
end
end Go.Proofs.Ytjpacggpipflcaa

namespace Go.Proofs.Ytjpacggpipflcaa
noncomputable section
open Go Go.RowKit
set_option linter.unusedVariables false
set_option linter.unusedSimpArgs false
theorem mem_sN {L : List (List Int)} (h : Eu L = true) {x y : Nat} (hx : x < L.length) : y ∈ sN L x ↔ (y : Int) ∈ L.getD x [] := by
  obtain ⟨_, _, h3⟩ := mayS_iff.1 h; unfold sN; rw [List.mem_map]
  constructor
  · rintro ⟨z, hz, rfl⟩; have := Hw (h3 x hx) hz; rw [Int.toNat_of_nonneg this.1]; exact hz
  · intro hy; exact ⟨_, hy, An y⟩
theorem rch_lt {L : List (List Int)} (h : Eu L = true) {x y : Nat} (hr : Rch (sN L) x y) (hx : x < L.length) : y < L.length := by
  induction hr with
  | refl x => exact hx
  | head hy _ ih => exact ih (Is h _ hx _ hy)
theorem ofN_at {l : List Nat} {i : Nat} (hi : i < l.length) : (Ft l).getD i 0 = ((l[i] : Nat) : Int) := by simp [Ft, List.getD, hi]
end
end Go.Proofs.Ytjpacggpipflcaa

namespace Go.Proofs.Ytjpacggpipflcaa
noncomputable section
open Go Go.RowKit
set_option linter.unusedVariables false
set_option linter.unusedSimpArgs false
end
end Go.Proofs.Ytjpacggpipflcaa

namespace Go.Proofs.Ytjpacggpipflcaa
noncomputable section
open Go Go.RowKit
set_option linter.unusedVariables false
set_option linter.unusedSimpArgs false
def mk (o : List Bool) (l : List Nat) : List Bool := l.foldl (fun o y => o.set y true) o
theorem mk_len (l : List Nat) : ∀ o : List Bool, (mk o l).length = o.length := by
  induction l with
  | nil => intro o; rfl
  | cons y l ih => intro o; show (mk (o.set y true) l).length = _; rw [ih, List.length_set]
theorem mk_at {n : Nat} (l : List Nat) : ∀ (o : List Bool), o.length = n → (∀ y ∈ l, y < n) → ∀ z, (mk o l).getD z false = true ↔ o.getD z false = true ∨ z ∈ l := by
  induction l with
  | nil => intro o _ _ z; simp [mk]
  | cons y l ih =>
    intro o ho hl z
    show (mk (o.set y true) l).getD z false = true ↔ _
    rw [ih (o.set y true) (by rw [List.length_set]; exact ho) (fun u hu => hl u (List.mem_cons_of_mem _ hu)) z]; have hy := hl y (List.mem_cons_self ..)
    have e : (o.set y true).getD z false = true ↔ o.getD z false = true ∨ z = y := by
      rw [List.getD_eq_getElem?_getD, List.getElem?_set, List.getD_eq_getElem?_getD]
      by_cases h : y = z
      · subst h; simp [ho, hy]
      · simp [h, Ne.symm h]
    rw [e, List.mem_cons]
    constructor
    · rintro ((h | h) | h)
      · exact .inl h
      · exact .inr (.inl h)
      · exact .inr (.inr h)
    · rintro (h | h | h)
      · exact .inl (.inl h)
      · exact .inl (.inr h)
      · exact .inr h
def sw (S : Nat → List Nat) (o : List Bool) : Nat → List Bool
  | 0 => o
  | i + 1 => if (sw S o i).getD i false = true then mk (sw S o i) (S i) else sw S o i
def Up (S : Nat → List Nat) (n : Nat) (o : List Bool) : Nat → List Bool
  | 0 => o
  | j + 1 => sw S (Up S n o j) n
section
variable {S : Nat → List Nat} {n : Nat} (hS : ∀ z, z < n → ∀ y ∈ S z, y < n)
theorem Ou (o : List Bool) : ∀ i, (sw S o i).length = o.length := by
  intro i
  induction i with
  | zero => rfl
  | succ i ih => unfold sw; split; rw [mk_len, ih]; exact ih
theorem rds_len (o : List Bool) : ∀ j, (Up S n o j).length = o.length := by
  intro j
  induction j with
  | zero => rfl
  | succ j ih => unfold Up; rw [Ou, ih]
include hS
theorem P6 {o : List Bool} (ho : o.length = n) : ∀ i, i ≤ n → ∀ z, o.getD z false = true → (sw S o i).getD z false = true := by
  intro i
  induction i with
  | zero => intro _ z h; exact h
  | succ i ih =>
    intro hi z h; unfold sw
    split
    · exact (mk_at (n := n) _ _ (by rw [Ou]; exact ho) (hS i (by omega)) z).2 (.inl (ih (by omega) z h))
    · exact ih (by omega) z h
theorem sw_sound {o : List Bool} {r : Nat} (ho : o.length = n) (h : ∀ z, o.getD z false = true → Rch S r z) : ∀ i, i ≤ n → ∀ z, (sw S o i).getD z false = true → Rch S r z := by
  intro i
  induction i with
  | zero => intro _ z hz; exact h z hz
  | succ i ih =>
    intro hi z hz; unfold sw at hz
    split at hz
    · rename_i hsi
      rcases (mk_at (n := n) _ _ (by rw [Ou]; exact ho) (hS i (by omega)) z).1 hz with h1 | h1
      · exact ih (by omega) z h1
      · exact (ih (by omega) i hsi).tail h1
    · exact ih (by omega) z hz
theorem sw_step {o : List Bool} (ho : o.length = n) : ∀ i, i ≤ n → ∀ j, j < i → o.getD j false = true → ∀ y ∈ S j, (sw S o i).getD y false = true := by
  intro i
  induction i with
  | zero => intro _ j hj; omega
  | succ i ih =>
    intro hi j hj hoj y hy; unfold sw
    by_cases hji : j = i
    · subst hji; have h1 := P6 hS ho j (by omega) j hoj; rw [if_pos h1]; exact (mk_at (n := n) _ _ (by rw [Ou]; exact ho) (hS j (by omega)) y).2 (.inr hy)
    · have h1 := ih (by omega) j (by omega) hoj y hy
      split
      · exact (mk_at (n := n) _ _ (by rw [Ou]; exact ho) (hS i (by omega)) y).2 (.inl h1)
      · exact h1
theorem sw_closed {o : List Bool} (ho : o.length = n) (hc : ∀ j, j < n → o.getD j false = true → ∀ y ∈ S j, o.getD y false = true) : ∀ i, i ≤ n → ∀ z, (sw S o i).getD z false = true → o.getD z false = true := by
  intro i
  induction i with
  | zero => intro _ z h; exact h
  | succ i ih =>
    intro hi z hz; unfold sw at hz
    split at hz
    · rename_i hsi
      rcases (mk_at (n := n) _ _ (by rw [Ou]; exact ho) (hS i (by omega)) z).1 hz with h1 | h1
      · exact ih (by omega) z h1
      · exact hc i (by omega) (ih (by omega) i hsi) z h1
    · exact ih (by omega) z hz
theorem Wc {r : Nat} (hr : r < n) (z : Nat) : (Up S n ((List.replicate n false).set r true) n).getD z false = true ↔ Rch S r z := by
  let o0 := (List.replicate n false).set r true
  have ho0 : o0.length = n := by simp [o0]
  have hat0 : ∀ z, o0.getD z false = true ↔ z = r := fun z => by
    show ((List.replicate n false).set r true).getD z false = true ↔ z = r
    rw [List.getD_eq_getElem?_getD, List.getElem?_set]
    by_cases h : r = z
    · subst h; simp [hr]
    · rw [if_neg h, ← List.getD_eq_getElem?_getD, F5]; simp [Ne.symm h]
  have hlen : ∀ j, (Up S n o0 j).length = n := fun j => by rw [rds_len, ho0]
  have hsound : ∀ j z, (Up S n o0 j).getD z false = true → Rch S r z := by
    intro j
    induction j with
    | zero => intro z hz; rw [(hat0 z).1 hz]; exact .refl _
    | succ j ih => intro z hz; exact sw_sound hS (hlen j) ih n (Nat.le_refl _) z hz
  have hmono : ∀ j, ∀ z, o0.getD z false = true → (Up S n o0 j).getD z false = true := by
    intro j
    induction j with
    | zero => intro z h; exact h
    | succ j ih => intro z h; exact P6 hS (hlen j) n (Nat.le_refl _) z (ih z h)
  let C : Nat → Prop := fun j => ∀ i, i < n → (Up S n o0 j).getD i false = true → ∀ y ∈ S i, (Up S n o0 j).getD y false = true
  have key : ∀ j, C j ∨ S8 n (fun z => (Up S n o0 j).getD z false) + j + 1 ≤ n := by
    intro j
    induction j with
    | zero =>
      refine .inr ?_; have h1 := Kb (n := n) (s := fun _ => false) hr rfl
      have e : upd (fun _ => false) r = fun z => (Up S n o0 0).getD z false := by
        funext z
        rw [Bool.eq_iff_iff, upd_true]
        show _ ↔ o0.getD z false = true
        rw [hat0]
        simp
      rw [e] at h1
      have hcl : S8 n (fun _ => false) = n := by
        unfold S8; rw [List.filter_eq_self.2 (by simp)]
        simp
      omega
    | succ j ih =>
      by_cases hc : C j
      · refine .inl fun i hi h y hy => ?_; have h1 := sw_closed hS (hlen j) hc n (Nat.le_refl _) i h; exact P6 hS (hlen j) n (Nat.le_refl _) y (hc i hi h1 y hy)
      · rcases ih with ih | ih
        · exact (hc ih).elim
        · refine .inr ?_
          have hex : ∃ i, i < n ∧ (Up S n o0 j).getD i false = true ∧ ∃ y, y ∈ S i ∧ (Up S n o0 j).getD y false = false := by
            simp only [C] at hc; simp only [Classical.not_forall] at hc; obtain ⟨i, hi, h1, y, hy, h2⟩ := hc; exact ⟨i, hi, h1, y, hy, by simpa using h2⟩
          obtain ⟨i, hi, h1, y, hy, h2⟩ := hex; have h3 := sw_step hS (hlen j) n (Nat.le_refl _) i hi h1 y hy; have hyn := hS i hi y hy; have h4 := Kb (n := n) (s := fun z => (Up S n o0 j).getD z false) hyn h2
          have h5 : S8 n (fun z => (Up S n o0 (j + 1)).getD z false) ≤ S8 n (upd (fun z => (Up S n o0 j).getD z false) y) := Wn fun z hz => by
            rcases upd_true.1 hz with rfl | hz
            · exact h3
            · exact P6 hS (hlen j) n (Nat.le_refl _) z hz
          omega
  have hC : C n := by
    rcases key n with h | h
    · exact h
    · omega
  constructor
  · exact hsound n z
  · intro hrch
    have hlt : ∀ x z, Rch S x z → x < n → z < n ∧ ((Up S n o0 n).getD x false = true → (Up S n o0 n).getD z false = true) := by
      intro x z hxz
      induction hxz with
      | refl x => exact fun hx => ⟨hx, id⟩
      | @head x y z hy _ ih =>
        intro hx; have := ih (hS x hx y hy); exact ⟨this.1, fun h => this.2 (hC x hx h y hy)⟩
    exact (hlt r z hrch hr).2 (hmono n r ((hat0 r).2 rfl))
end
end
end Go.Proofs.Ytjpacggpipflcaa

namespace Go.Proofs.Ytjpacggpipflcaa
noncomputable section
open Go Go.RowKit
set_option linter.unusedVariables false
set_option linter.unusedSimpArgs false
def pos : List Nat → Nat → Nat
  | [], _ => 0
  | x :: l, z => if x = z then 0 else pos l z + 1
theorem R3 (x : Nat) (l : List Nat) (z : Nat) : pos (x :: l) z = if x = z then 0 else pos l z + 1 := rfl
theorem pos_app {A l : List Nat} {z : Nat} (h : z ∉ A) : pos (A ++ l) z = A.length + pos l z := by
  induction A with
  | nil => simp
  | cons x A ih =>
    have h1 : x ≠ z := fun e => h (by rw [e]; exact List.mem_cons_self ..); have h2 : z ∉ A := fun e => h (List.mem_cons_of_mem _ e); rw [List.cons_append, R3, if_neg h1, ih h2, List.length_cons]; omega
theorem I6 {P : List Nat} (hd : P.Nodup) {i : Nat} (hi : i < P.length) : P[i] ∉ P.take i ∧ pos P P[i] = i := by
  have e : P = P.take i ++ P[i] :: P.drop (i + 1) := by rw [← List.drop_eq_getElem_cons hi, List.take_append_drop]
  have hn : P[i] ∉ P.take i := by
    rw [e] at hd; have := (List.nodup_append.1 hd).2.2; exact fun hm => this _ hm _ (List.mem_cons_self ..) rfl
  refine ⟨hn, ?_⟩
  have h2 : pos (P.take i ++ P[i] :: P.drop (i + 1)) P[i] = i := by
    rw [pos_app hn]
    have : pos (P[i] :: P.drop (i + 1)) P[i] = 0 := by rw [R3, if_pos rfl]
    rw [this, List.length_take]; omega
  rw [← e] at h2; exact h2
end
end Go.Proofs.Ytjpacggpipflcaa

namespace Go.Proofs.Ytjpacggpipflcaa
noncomputable section
open Go Go.RowKit
set_option linter.unusedVariables false
set_option linter.unusedSimpArgs false
inductive Rc (S : Nat → List Nat) (r : Nat) : Nat → Prop
  | root : Rc S r r
  | step {x y : Nat} (h : Rc S r x) (hy : y ∈ S x) : Rc S r y
inductive Av (S : Nat → List Nat) (r z : Nat) : Nat → Prop
  | root (h : r ≠ z) : Av S r z r
  | step {x y : Nat} (h : Av S r z x) (hy : y ∈ S x) (hz : y ≠ z) : Av S r z y
inductive AvN (S : Nat → List Nat) (r z : Nat) : Nat → Nat → Prop
  | root (h : r ≠ z) (k : Nat) : AvN S r z k r
  | step {k x y : Nat} (h : AvN S r z k x) (hy : y ∈ S x) (hz : y ≠ z) : AvN S r z (k + 1) y
section
variable {S : Nat → List Nat} {r : Nat}
theorem rc_iff {x : Nat} : Rc S r x ↔ Rch S r x := by
  constructor
  · intro h
    induction h with
    | root => exact .refl _
    | step _ hy ih => exact ih.tail hy
  · intro h
    have key : ∀ a b, Rch S a b → Rc S r a → Rc S r b := by
      intro a b hab
      induction hab with
      | refl x => exact id
      | head hy _ ih => exact fun ha => ih (.step ha hy)
    exact key _ _ h .root
def wo (S : Nat → List Nat) (z : Nat) : Nat → List Nat := fun x => (S x).filter fun y => decide (y ≠ z)
theorem av_iff {z x : Nat} : Av S r z x ↔ r ≠ z ∧ Rch (wo S z) r x := by
  constructor
  · intro h
    induction h with
    | root h => exact ⟨h, .refl _⟩
    | step _ hy hz ih => exact ⟨ih.1, ih.2.tail (List.mem_filter.2 ⟨hy, by simpa using hz⟩)⟩
  · rintro ⟨hr, h⟩
    have key : ∀ a b, Rch (wo S z) a b → Av S r z a → Av S r z b := by
      intro a b hab
      induction hab with
      | refl x => exact id
      | head hy _ ih =>
        obtain ⟨h1, h2⟩ := List.mem_filter.1 hy; exact fun ha => ih (.step ha h1 (by simpa using h2))
    exact key _ _ h (.root hr)
theorem Av.rc {z x : Nat} (h : Av S r z x) : Rc S r x := by
  induction h with
  | root _ => exact .root
  | step _ hy _ ih => exact .step ih hy
theorem Av.ne {z x : Nat} (h : Av S r z x) : x ≠ z := by
  cases h with
  | root h => exact h
  | step _ _ hz => exact hz
theorem AvN.av {z k x : Nat} (h : AvN S r z k x) : Av S r z x := by
  induction h with
  | root h => exact .root h
  | step _ hy hz ih => exact .step ih hy hz
theorem AvN.up {z k x : Nat} (h : AvN S r z k x) : AvN S r z (k + 1) x := by
  induction h with
  | root h k => exact .root h _
  | step _ hy hz ih => exact .step ih hy hz
theorem AvN.mono {z k m x : Nat} (h : AvN S r z k x) (hm : k ≤ m) : AvN S r z m x := by
  obtain ⟨d, rfl⟩ := Nat.exists_eq_add_of_le hm; clear hm
  induction d with
  | zero => exact h
  | succ d ih => exact ih.up
theorem Av.avn {z x : Nat} (h : Av S r z x) : ∃ k, AvN S r z k x := by
  induction h with
  | root h => exact ⟨0, .root h 0⟩
  | step _ hy hz ih => obtain ⟨k, hk⟩ := ih; exact ⟨k + 1, .step hk hy hz⟩
theorem AvN.via {z k x : Nat} (h : AvN S r z k x) (y : Nat) : AvN S r y k x ∨ AvN S r z k y := by
  induction h with
  | root h k => by_cases hy : r = y
                · subst hy; exact .inr (.root h _)
                · exact .inl (.root hy _)
  | @step k x w h hy hz ih =>
    rcases ih with h1 | h1
    · by_cases hw : w = y
      · subst hw; exact .inr (.step h hy hz)
      · exact .inl (.step h1 hy hw)
    · exact .inr h1.up
theorem avn_bound (n : Nat) : ∃ K, ∀ z, z < n → ∀ x, x < n → Av S r z x → AvN S r z K x := by
  have one : ∀ z m, ∃ K, ∀ x, x < m → Av S r z x → AvN S r z K x := by
    intro z m
    induction m with
    | zero => exact ⟨0, fun x hx => absurd hx (Nat.not_lt_zero x)⟩
    | succ m ih =>
      obtain ⟨K, hK⟩ := ih
      by_cases h : Av S r z m
      · obtain ⟨k, hk⟩ := h.avn; refine ⟨max K k, fun x hx ha => ?_⟩; rcases Nat.lt_succ_iff_lt_or_eq.1 hx with h1 | rfl
        · exact (hK x h1 ha).mono (Nat.le_max_left ..)
        · exact hk.mono (Nat.le_max_right ..)
      · refine ⟨K, fun x hx ha => ?_⟩; rcases Nat.lt_succ_iff_lt_or_eq.1 hx with h1 | rfl
        · exact hK x h1 ha
        · exact absurd ha h
  have two : ∀ m, ∃ K, ∀ z, z < m → ∀ x, x < n → Av S r z x → AvN S r z K x := by
    intro m
    induction m with
    | zero => exact ⟨0, fun x hx => absurd hx (Nat.not_lt_zero x)⟩
    | succ m ih =>
      obtain ⟨K, hK⟩ := ih; obtain ⟨k, hk⟩ := one m n; refine ⟨max K k, fun z hz x hx ha => ?_⟩; rcases Nat.lt_succ_iff_lt_or_eq.1 hz with h1 | rfl
      · exact (hK z h1 x hx ha).mono (Nat.le_max_left ..)
      · exact (hk x hx ha).mono (Nat.le_max_right ..)
  exact two n
end
inductive UpTo (par : Nat → Int) : Nat → Nat → Prop
  | refl (x : Nat) : UpTo par x x
  | up {x y z : Nat} (h : par x = (y : Int)) (t : UpTo par y z) : UpTo par x z
inductive Fw (S : Nat → List Nat) (at_ : Nat → Nat) (u : Nat) : Nat → Prop
  | refl : Fw S at_ u u
  | step {v w : Nat} (h : Fw S at_ u v) (hw : w ∈ S v) (hl : at_ v < at_ w) : Fw S at_ u w
section
variable {S : Nat → List Nat} {at_ : Nat → Nat} {par : Nat → Int}
theorem Fw.le {u w : Nat} (h : Fw S at_ u w) : at_ u ≤ at_ w := by
  induction h with
  | refl => exact Nat.le_refl _
  | step _ _ hl ih => omega
theorem Fw.trans {u v w : Nat} (h : Fw S at_ u v) (k : Fw S at_ v w) : Fw S at_ u w := by
  induction k with
  | refl => exact h
  | step _ hw hl ih => exact .step ih hw hl
theorem Fw.av {r d u w : Nat} (h : Fw S at_ u w) (ha : Av S r d u) (hd : at_ d < at_ u) : Av S r d w := by
  induction h with
  | refl => exact ha
  | @step v w h hw hl ih => exact .step ih hw (by rintro rfl; have := h.le; omega)
theorem UpTo.trans {x y z : Nat} (h : UpTo par x y) (k : UpTo par y z) : UpTo par x z := by
  induction h with
  | refl x => exact k
  | up h _ ih => exact .up h (ih k)
theorem anc_up {x p z : Nat} (h : par x = (p : Int)) : UpTo par x z ↔ z = x ∨ UpTo par p z := by
  constructor
  · intro k
    cases k with
    | refl => exact .inl rfl
    | up h' t => rw [h] at h'; cases Int.ofNat.inj h'; exact .inr t
  · rintro (rfl | k)
    · exact .refl _
    · exact .up h k
theorem P7 {x z : Nat} (h : ∀ p : Nat, par x ≠ (p : Int)) : UpTo par x z ↔ z = x := by
  constructor
  · intro k
    cases k with
    | refl => rfl
    | up h' t => exact absurd h' (h _)
  · rintro rfl; exact .refl _
structure Inv (S : Nat → List Nat) (r n : Nat) (at_ : Nat → Nat) (par : Nat → Int) : Prop where
  top : par r = -1
  kind : ∀ x, x < n → par x = -2 ∨ x = r ∨ ∃ z : Nat, par x = (z : Int)
  up : ∀ x, x < n → ∀ z : Nat, par x = (z : Int) → z < n ∧ par z ≠ -2 ∧ at_ z < at_ x ∧ Fw S at_ z x
  rc : ∀ x, x < n → par x ≠ -2 → Rc S r x
  all : ∀ x, x < n → par x ≠ -2 → ∀ d, ¬ UpTo par x d → Av S r d x
end
section
variable {S : Nat → List Nat} {at_ : Nat → Nat} {par : Nat → Int} {r n : Nat}
theorem Inv.anc (h : Inv S r n at_ par) {x z : Nat} (k : UpTo par x z) (hx : x < n) (hp : par x ≠ -2) : z < n ∧ par z ≠ -2 ∧ at_ z ≤ at_ x ∧ Fw S at_ z x := by
  induction k with
  | refl x => exact ⟨hx, hp, Nat.le_refl _, .refl⟩
  | @up x y z hxy t ih =>
    obtain ⟨h1, h2, h3, h4⟩ := h.up x hx y hxy; obtain ⟨i1, i2, i3, i4⟩ := ih h1 h2; exact ⟨i1, i2, by omega, i4.trans h4⟩
theorem Inv.root_anc (h : Inv S r n at_ par) {z : Nat} : UpTo par r z ↔ z = r := P7 fun p hp => by rw [h.top] at hp; omega
theorem Inv.strict (h : Inv S r n at_ par) {x z : Nat} (k : UpTo par x z) (hx : x < n) (hp : par x ≠ -2) : z = x ∨ at_ z < at_ x := by
  cases k with
  | refl => exact .inl rfl
  | up hxy t =>
    obtain ⟨h1, h2, h3, h4⟩ := h.up x hx _ hxy; obtain ⟨i1, i2, i3, i4⟩ := h.anc t h1 h2; exact .inr (by omega)
theorem Inv.antisymm (h : Inv S r n at_ par) {x z : Nat} (k : UpTo par x z) (m : UpTo par z x) (hx : x < n) (hp : par x ≠ -2) : z = x := by
  rcases h.strict k hx hp with rfl | h1
  · rfl
  · obtain ⟨i1, i2, i3, i4⟩ := h.anc k hx hp; have := (h.anc m i1 i2).2.2.1; omega
def MeetAt (par : Nat → Int) (a b m : Nat) : Prop := ∀ w, UpTo par m w ↔ UpTo par a w ∧ UpTo par b w
theorem Tu {a : Nat} : MeetAt par a a a := fun w => by simp
theorem meet_swap {a b m : Nat} (h : MeetAt par a b m) : MeetAt par b a m := fun w => by rw [h w]; exact And.comm
theorem Inv.meet_left (h : Inv S r n at_ par) (hinj : ∀ x y, x < n → y < n → par x ≠ -2 → par y ≠ -2 → at_ x = at_ y → x = y) {a b p m : Nat} (ha : a < n) (hpa : par a ≠ -2) (hb : b < n) (hpb : par b ≠ -2) (hab : a ≠ b) (hl : at_ b ≤ at_ a) (hp : par a = (p : Int)) (k : MeetAt par p b m) : MeetAt par a b m := fun w => by
  rw [k w]
  constructor
  · rintro ⟨h1, h2⟩; exact ⟨.up hp h1, h2⟩
  · rintro ⟨h1, h2⟩; rcases (anc_up hp).1 h1 with rfl | h1
    · exfalso
      rcases h.strict h2 hb hpb with h3 | h3
      · exact hab h3
      · omega
    · exact ⟨h1, h2⟩
end
section
variable {S : Nat → List Nat} {at_ : Nat → Nat} {par : Nat → Int} {r n : Nat}
def Gp (par : Nat → Int) (y : Nat) (v : Int) : Nat → Int := fun x => if x = y then v else par x
def Zf (S : Nat → List Nat) (n : Nat) (par : Nat → Int) (y z : Nat) : Prop := ∀ w, UpTo par z w ↔ ∀ p, p < n → y ∈ S p → par p ≠ -2 → UpTo par p w
theorem Pn {y : Nat} {v : Int} {x z : Nat} (k : UpTo par x z) (hy : ¬ UpTo par x y) : UpTo (Gp par y v) x z := by
  induction k with
  | refl x => exact .refl _
  | @up x q z h t ih =>
    have hxy : x ≠ y := by rintro rfl; exact hy (.refl _)
    refine .up (y := q) ?_ (ih fun k => hy (.up h k)); unfold Gp; rw [if_neg hxy]; exact h
theorem Vv {y : Nat} {v : Int} {x : Nat} (k : UpTo par x y) : UpTo (Gp par y v) x y := by
  induction k with
  | refl x => exact .refl _
  | @up x q z h t ih =>
    by_cases hxy : x = z
    · subst hxy; exact .refl _
    · refine .up (y := q) ?_ ih; unfold Gp; rw [if_neg hxy]; exact h
theorem anc_upd_inv {y : Nat} {v : Int} {x w : Nat} (k : UpTo (Gp par y v) x w) : UpTo par x w ∨ (UpTo par x y ∧ UpTo (Gp par y v) y w) := by
  induction k with
  | refl x => exact .inl (.refl _)
  | @up x q w h t ih =>
    by_cases hxy : x = y
    · subst hxy; exact .inr ⟨.refl _, .up h t⟩
    · unfold Gp at h; rw [if_neg hxy] at h; rcases ih with h1 | ⟨h1, h2⟩
      · exact .inl (.up h h1)
      · exact .inr ⟨.up h h1, h2⟩
theorem low_or {y : Nat} {v : Int} {x d : Nat} (k : UpTo par x y) (hd : UpTo par x d) : UpTo par y d ∨ UpTo (Gp par y v) x d := by
  induction k with
  | refl x => exact .inl hd
  | @up x q y hq t ih =>
    by_cases e : x = y
    · subst e; exact .inl hd
    · rcases (anc_up hq).1 hd with rfl | k
      · exact .inr (.refl _)
      · rcases ih k with h1 | h1
        · exact .inl h1
        · exact .inr (.up (y := q) (by unfold Gp; rw [if_neg e]; exact hq) h1)
structure Better (S : Nat → List Nat) (r n : Nat) (at_ : Nat → Nat) (par : Nat → Int) (y z : Nat) : Prop where
  inv : Inv S r n at_ par
  hy : y < n
  hr : y ≠ r
  hz : z < n
  best : Zf S n par y z
  fwd : ∃ p, p < n ∧ y ∈ S p ∧ par p ≠ -2 ∧ at_ p < at_ y
variable {y z : Nat}
theorem Better.zlt (h : Better S r n at_ par y z) : UpTo par z z ∧ par z ≠ -2 ∧ at_ z < at_ y ∧ Fw S at_ z y := by
  obtain ⟨p, hp, hyp, hpp, hl⟩ := h.fwd; obtain ⟨h1, h2, h3, h4⟩ := h.inv.anc ((h.best z).1 (.refl _) p hp hyp hpp) hp hpp; exact ⟨.refl _, h2, by omega, .step h4 hyp hl⟩
theorem Better.above (h : Better S r n at_ par y z) {w : Nat} : UpTo (Gp par y z) z w ↔ UpTo par z w := by
  obtain ⟨_, h2, h3, _⟩ := h.zlt
  have hn : ¬ UpTo par z y := fun k => by have := (h.inv.anc k h.hz h2).2.2.1; omega
  constructor
  · intro k; rcases anc_upd_inv k with h1 | ⟨h1, _⟩
    · exact h1
    · exact absurd h1 hn
  · intro k; exact Pn k hn
theorem Better.here (h : Better S r n at_ par y z) {w : Nat} : UpTo (Gp par y z) y w ↔ w = y ∨ UpTo par z w := by
  rw [anc_up (p := z) (by simp [Gp]), h.above]
theorem Better.av_here (h : Better S r n at_ par y z) {d : Nat} (hd : ¬ UpTo (Gp par y z) y d) : Av S r d y := by
  rw [h.here] at hd; have h1 : ¬ ∀ p, p < n → y ∈ S p → par p ≠ -2 → UpTo par p d := fun hh => hd (.inr ((h.best d).2 hh)); simp only [Classical.not_forall] at h1; obtain ⟨p, hp, hyp, hpp, hnp⟩ := h1; exact .step (h.inv.all p hp hpp d hnp) hyp fun e => hd (.inl e.symm)
theorem Better.inv' (h : Better S r n at_ par y z) : Inv S r n at_ (Gp par y z) := by
  obtain ⟨hzz, hz2, hzl, hzf⟩ := h.zlt; obtain ⟨p, hp, hyp, hpp, hl⟩ := h.fwd
  have hne : ∀ x, Gp par y z x ≠ -2 → x = y ∨ par x ≠ -2 := fun x hx => by
    by_cases e : x = y
    · exact .inl e
    · unfold Gp at hx; rw [if_neg e] at hx; exact .inr hx
  have hyv : Gp par y z y = (z : Int) := by simp [Gp]
  have hyo : ∀ x, x ≠ y → Gp par y z x = par x := fun x e => by unfold Gp; rw [if_neg e]
  refine ⟨by rw [hyo _ (Ne.symm h.hr)]; exact h.inv.top, fun x hx => ?_, fun x hx w hw => ?_, fun x hx hxp => ?_, fun x hx hxp d hd => ?_⟩
  · by_cases e : x = y
    · subst e; exact .inr (.inr ⟨z, hyv⟩)
    · rw [hyo x e]; exact h.inv.kind x hx
  · have hzn : ∀ w, par w ≠ -2 → Gp par y z w ≠ -2 := fun w hw => by
      by_cases e : w = y
      · subst e; rw [hyv]; omega
      · rw [hyo w e]; exact hw
    by_cases e : x = y
    · subst e; rw [hyv] at hw
      cases Int.ofNat.inj hw
      exact ⟨h.hz, hzn _ hz2, hzl, hzf⟩
    · rw [hyo x e] at hw; obtain ⟨h1, h2, h3, h4⟩ := h.inv.up x hx w hw; exact ⟨h1, hzn _ h2, h3, h4⟩
  · rcases hne x hxp with rfl | h1
    · exact .step (h.inv.rc p hp hpp) hyp
    · exact h.inv.rc x hx h1
  · by_cases e : x = y
    · subst e; exact h.av_here hd
    · rw [hyo x e] at hxp
      by_cases hxd : UpTo par x d
      ·
        by_cases hxy : UpTo par x y
        · have hyd : ¬ UpTo (Gp par y z) y d := fun k => hd ((Vv hxy).trans k); have hav := h.av_here hyd; have hf := (h.inv.anc hxy hx hxp).2.2.2
          have hdy : UpTo par y d := by
            rcases low_or (v := (z : Int)) hxy hxd with h1 | h1
            · exact h1
            · exact absurd h1 hd
          by_cases hpy : par y = -2
          ·
            have : d = y := by
              refine (P7 (par := par) fun p hp => ?_).1 hdy; rw [hpy] at hp; omega
            subst this; exact absurd (.refl _) hyd
          · rcases h.inv.strict hdy h.hy hpy with rfl | hlt
            · exact absurd (.refl _) hyd
            · exact hf.av hav hlt
        · exact absurd (Pn hxd hxy) hd
      · exact h.inv.all x hx hxp d hxd
end
end
end Go.Proofs.Ytjpacggpipflcaa

namespace Go.Proofs.Ytjpacggpipflcaa
noncomputable section
open Go Go.RowKit
set_option linter.unusedVariables false
set_option linter.unusedSimpArgs false
section
variable {S : Nat → List Nat} {at_ : Nat → Nat} {par : Nat → Int} {r n : Nat}
def QB (S : Nat → List Nat) (r n : Nat) (par : Nat → Int) (b : Nat → Nat) : Prop := ∀ x, x < n → par x ≠ -2 → ∀ z, AvN S r z (b x) x → ¬ UpTo par x z
def Zp (S : Nat → List Nat) (r n : Nat) (par : Nat → Int) : Prop := ∀ x, x < n → Rc S r x → par x ≠ -2
def Aae (S : Nat → List Nat) (r n : Nat) (par : Nat → Int) : Prop := ∀ x, x < n → par x ≠ -2 → ∀ d, UpTo par x d ↔ ¬ Av S r d x
theorem qb_zero (h : Inv S r n at_ par) : QB S r n par fun _ => 0 := fun x hx hp z hz k => by
  cases hz with
  | root hr _ => exact hr (h.root_anc.1 k).symm
theorem T4 (hS : ∀ x, x < n → ∀ w ∈ S x, w < n) (hr : r < n) {x : Nat} (h : Rc S r x) : x < n := by
  induction h with
  | root => exact hr
  | step _ hy ih => exact hS _ ih _ hy
theorem Better.qb {y z k : Nat} {b : Nat → Nat} (h : Better S r n at_ par y z) (hS : ∀ x, x < n → ∀ w ∈ S x, w < n) (hrn : r < n) (full : Zp S r n par) (hb : ∀ x, x < n → k ≤ b x ∧ b x ≤ k + 1) (q : QB S r n par b) :
    QB S r n (Gp par y z) fun x => if x = y then k + 1 else b x := by
  have here : ∀ w, AvN S r w (k + 1) y → ¬ UpTo (Gp par y z) y w := fun w hw hu => by
    rcases h.here.1 hu with rfl | hu
    · exact hw.av.ne rfl
    · cases hw with
      | root hr _ => exact h.hr rfl
      | @step _ p _ hp hyp hne =>
        have hpn := T4 hS hrn hp.av.rc; have hpp := full p hpn hp.av.rc; exact q p hpn hpp w (hp.mono (hb p hpn).1) ((h.best w).1 hu p hpn hyp hpp)
  intro x hx hxp w hw hu
  dsimp only at hw
  by_cases e : x = y
  · subst e; rw [if_pos rfl] at hw; exact here w hw hu
  · rw [if_neg e] at hw; unfold Gp at hxp; rw [if_neg e] at hxp; rcases anc_upd_inv hu with h1 | ⟨h1, h2⟩
    · exact q x hx hxp w hw h1
    · rcases hw.via y with h3 | h3
      · exact q x hx hxp y h3 h1
      · exact here w (h3.mono (hb x hx).2) h2
theorem exact_of (h : Inv S r n at_ par) {K : Nat} (hK : ∀ z, z < n → ∀ x, x < n → Av S r z x → AvN S r z K x) (q : QB S r n par fun _ => K) : Aae S r n par := fun x hx hp d => by
  constructor
  · intro hu ha; exact q x hx hp d (hK d (h.anc hu hx hp).1 x hx ha) hu
  · intro ha; exact Classical.byContradiction fun hn => ha (h.all x hx hp d hn)
theorem Better.same {y z : Nat} (h : Better S r n at_ par y z) (hS : ∀ x, x < n → ∀ w ∈ S x, w < n) (hrn : r < n) (full : Zp S r n par) (hy2 : par y ≠ -2) (ex : Aae S r n par) : par y = (z : Int) := by
  obtain ⟨hzz, hz2, hzl, hzf⟩ := h.zlt; rcases h.inv.kind y h.hy with h1 | h1 | ⟨q, hq⟩
  · exact absurd h1 hy2
  · exact absurd h1 h.hr
  · obtain ⟨q1, q2, q3, q4⟩ := h.inv.up y h.hy q hq
    have key : ∀ w, UpTo par z w ↔ UpTo par q w := fun w => by
      rw [h.best w]
      constructor
      · intro hall
        have hwy : ¬ Av S r w y := fun ha => by
          cases ha with
          | root _ => exact h.hr rfl
          | @step p _ hp hyp hne =>
            have hpn := T4 hS hrn hp.rc; have hpp := full p hpn hp.rc; exact (ex p hpn hpp w).1 (hall p hpn hyp hpp) hp
        rcases (anc_up hq).1 ((ex y h.hy hy2 w).2 hwy) with rfl | hu
        · have := (h.inv.anc ((h.best _).2 hall) h.hz hz2).2.2.1; omega
        · exact hu
      · intro hu p hp hyp hpp; have hwy : UpTo par y w := .up hq hu; refine (ex p hp hpp w).2 fun ha => ?_
        have hne : y ≠ w := by rintro rfl; have := (h.inv.anc hu q1 q2).2.2.1; omega
        exact (ex y h.hy hy2 w).1 hwy (.step ha hyp hne)
    have := h.inv.antisymm ((key q).2 (.refl _)) ((key z).1 (.refl _)) h.hz hz2; rw [hq, this]
theorem exact_fix (h : Inv S r n at_ par) (hS : ∀ x, x < n → ∀ w ∈ S x, w < n) (hrn : r < n) (full : Zp S r n par) (fix : ∀ y, y < n → y ≠ r → Rc S r y → ∃ z : Nat, par y = (z : Int) ∧ Zf S n par y z) : Aae S r n par := fun x hx hp d => by
  constructor
  · intro hu ha
    induction ha with
    | root hne => exact hne (h.root_anc.1 hu).symm
    | @step p y hp' hyp hne ih =>
      have hpn := T4 hS hrn hp'.rc; have hpp := full p hpn hp'.rc
      by_cases e : y = r
      · subst e; exact hne (h.root_anc.1 hu).symm
      · obtain ⟨z, hz, hb⟩ := fix y hx e (.step hp'.rc hyp); rcases (anc_up hz).1 hu with rfl | hu
        · exact hne rfl
        · exact ih hpn hpp ((hb d).1 hu p hpn hyp hpp)
  · intro ha; exact Classical.byContradiction fun hn => ha (h.all x hx hp d hn)
end
def Bf (t : List Int) : Nat → Int := fun x => t.getD x 0
theorem Xo {t : List Int} {y : Nat} {v : Int} (hy : y < t.length) : Bf (t.set y v) = Gp (Bf t) y v := by
  funext x
  unfold Bf Gp
  by_cases e : x = y
  · subst e; simp [List.getD, hy]
  · simp [List.getD, e, Ne.symm e]
open Classical in
def F8 (S : Nat → List Nat) (n : Nat) (t : List Int) (y : Nat) : Nat := if h : ∃ z, z < n ∧ Zf S n (Bf t) y z then Classical.choose h else 0
def Kr (S : Nat → List Nat) (n : Nat) (P : List Nat) (t : List Int) : Nat → List Int
  | 0 => t
  | i + 1 => (Kr S n P t i).set (P.getD i 0) (F8 S n (Kr S n P t i) (P.getD i 0) : Int)
def Qd (S : Nat → List Nat) (n : Nat) (P : List Nat) (t : List Int) : Nat → List Int
  | 0 => t
  | j + 1 => Kr S n P (Qd S n P t j) P.length
def Du (n r : Nat) : List Int := (List.replicate n (-2 : Int)).set r (-1)
structure Ordered (S : Nat → List Nat) (r n : Nat) (P : List Nat) : Prop where
  hr : r < n
  hS : ∀ x, x < n → ∀ w ∈ S x, w < n
  nodup : (r :: P).Nodup
  mem : ∀ x, x ∈ r :: P ↔ Rc S r x
  fwd : ∀ i, i < P.length → ∃ p, p ∈ r :: P.take i ∧ P.getD i 0 ∈ S p
section
variable {S : Nat → List Nat} {r n : Nat} {P : List Nat}
theorem Ordered.lt (o : Ordered S r n P) {x : Nat} (h : x ∈ r :: P) : x < n := T4 o.hS o.hr ((o.mem x).1 h)
theorem H3 {i : Nat} (hi : i < P.length) : P.getD i 0 ∈ P := by rw [Ag _ _ _ hi]; exact List.getElem_mem hi
theorem Ordered.at_lt (o : Ordered S r n P) {i : Nat} (hi : i < P.length) {p : Nat} (hp : p ∈ r :: P.take i) : pos (r :: P) p < pos (r :: P) (P.getD i 0) := by
  have hd := o.nodup
  have h1 : pos (r :: P) (P.getD i 0) = i + 1 := by
    have := (I6 hd (i := i + 1) (by simpa using hi)).2; rw [Ag _ _ _ hi]
    simpa using this
  rw [h1]; obtain ⟨j, hj, rfl⟩ := List.getElem_of_mem hp
  have hj' : j < i + 1 := by simp at hj; omega
  have hjl : j < (r :: P).length := by simp; omega
  have e : (r :: P.take i)[j] = (r :: P)[j] := by
    cases j with
    | zero => rfl
    | succ j => simp
  rw [e, (I6 hd hjl).2]; exact hj'
theorem inv0 (o : Ordered S r n P) : Inv S r n (pos (r :: P)) (Bf (Du n r)) ∧ (Du n r).length = n ∧ Bf (Du n r) r ≠ -2 := by
  have hlen : (Du n r).length = n := by simp [Du]
  have hr := o.hr
  have at_ : ∀ x, x < n → Bf (Du n r) x = if x = r then -1 else -2 := fun x hx => by
    unfold Bf Du
    by_cases e : x = r
    · subst e; simp [List.getD, hx]
    · simp [List.getD, hx, e, Ne.symm e]
  have hno : ∀ x, x < n → ∀ p : Nat, Bf (Du n r) x ≠ (p : Int) := fun x hx p hp => by rw [at_ x hx] at hp; split at hp <;> omega
  refine ⟨⟨by rw [at_ r hr, if_pos rfl], fun x hx => ?_, fun x hx z hz => absurd hz (hno x hx z), fun x hx hp => ?_, fun x hx hp d hd => ?_⟩, hlen, by rw [at_ r hr, if_pos rfl]; omega⟩
  · by_cases e : x = r
    · exact .inr (.inl e)
    · exact .inl (by rw [at_ x hx, if_neg e])
  · by_cases e : x = r
    · subst e; exact .root
    · exact absurd (by rw [at_ x hx, if_neg e]) hp
  · by_cases e : x = r
    · subst e; exact .root (fun e => hd (by rw [e]; exact .refl _))
    · exact absurd (by rw [at_ x hx, if_neg e]) hp
structure Ready (S : Nat → List Nat) (r n : Nat) (P : List Nat) (t : List Int) (i : Nat) : Prop where
  inv : Inv S r n (pos (r :: P)) (Bf t)
  len : t.length = n
  done : ∀ x ∈ r :: P.take i, Bf t x ≠ -2
theorem Inv.meets {at_ : Nat → Nat} {par : Nat → Int} (h : Inv S r n at_ par) (hinj : ∀ x y, x < n → y < n → par x ≠ -2 → par y ≠ -2 → at_ x = at_ y → x = y) (hr : at_ r = 0) : ∀ m a b, at_ a + at_ b ≤ m → a < n → b < n → par a ≠ -2 → par b ≠ -2 → ∃ c, MeetAt par a b c ∧ c < n ∧ par c ≠ -2 := by
  intro m
  induction m with
  | zero =>
    intro a b hm ha hb hpa hpb; have : a = b := hinj a b ha hb hpa hpb (by omega); subst this; exact ⟨a, Tu, ha, hpa⟩
  | succ m ih =>
    have go : ∀ a b, at_ a + at_ b ≤ m + 1 → a < n → b < n → par a ≠ -2 → par b ≠ -2 → at_ b ≤ at_ a → ∃ c, MeetAt par a b c ∧ c < n ∧ par c ≠ -2 := fun a b hm ha hb hpa hpb hl => by
      by_cases e : a = b
      · subst e; exact ⟨a, Tu, ha, hpa⟩
      · rcases h.kind a ha with h1 | h1 | ⟨p, hp⟩
        · exact absurd h1 hpa
        · subst h1; exact absurd (hinj a b ha hb hpa hpb (by omega)) e
        · obtain ⟨p1, p2, p3, p4⟩ := h.up a ha p hp; obtain ⟨c, hc, hc2⟩ := ih p b (by omega) p1 hb p2 hpb; exact ⟨c, h.meet_left hinj ha hpa hb hpb e hl hp hc, hc2⟩
    intro a b hm ha hb hpa hpb; rcases Nat.le_total (at_ b) (at_ a) with hl | hl
    · exact go a b hm ha hb hpa hpb hl
    · obtain ⟨c, hc, hc2⟩ := go b a (by omega) hb ha hpb hpa hl; exact ⟨c, meet_swap hc, hc2⟩
theorem Ready.inj (o : Ordered S r n P) {t : List Int} {i : Nat} (h : Ready S r n P t i) : ∀ x y, x < n → y < n → Bf t x ≠ -2 → Bf t y ≠ -2 → pos (r :: P) x = pos (r :: P) y → x = y := fun x y hx hy hpx hpy he => by
  have hm : ∀ x, x < n → Bf t x ≠ -2 → x ∈ r :: P := fun x hx hp => (o.mem x).2 (h.inv.rc x hx hp)
  have back : ∀ x ∈ r :: P, (r :: P).getD (pos (r :: P) x) 0 = x := fun x hx => by
    obtain ⟨j, hj, rfl⟩ := List.getElem_of_mem hx; rw [(I6 o.nodup hj).2, Ag _ _ _ hj]
  rw [← back x (hm x hx hpx), ← back y (hm y hy hpy), he]
theorem Vr : pos (r :: P) r = 0 := by rw [R3, if_pos rfl]
theorem Ready.meetAll (o : Ordered S r n P) {t : List Int} {i : Nat} (h : Ready S r n P t i) : ∀ l : List Nat, (∀ p ∈ l, p < n ∧ Bf t p ≠ -2) → l ≠ [] → ∃ z, z < n ∧ Bf t z ≠ -2 ∧ ∀ w, UpTo (Bf t) z w ↔ ∀ p ∈ l, UpTo (Bf t) p w := by
  intro l
  induction l with
  | nil => intro _ hn; exact absurd rfl hn
  | cons p l ih =>
    intro hl _; obtain ⟨hp1, hp2⟩ := hl p (List.mem_cons_self ..)
    by_cases hl0 : l = []
    · subst hl0; exact ⟨p, hp1, hp2, fun w => by simp⟩
    · obtain ⟨z, hz1, hz2, hz3⟩ := ih (fun q hq => hl q (List.mem_cons_of_mem _ hq)) hl0; obtain ⟨c, hc1, hc2, hc3⟩ := h.inv.meets (h.inj o) Vr _ p z (Nat.le_refl _) hp1 hz1 hp2 hz2; exact ⟨c, hc2, hc3, fun w => by rw [hc1 w, hz3 w]; simp⟩
theorem Ready.best (o : Ordered S r n P) {t : List Int} {i : Nat} (h : Ready S r n P t i) (hi : i < P.length) : Better S r n (pos (r :: P)) (Bf t) (P.getD i 0) (F8 S n t (P.getD i 0)) := by
  have hy := H3 hi; have hyr : P.getD i 0 ≠ r := fun e => (List.nodup_cons.1 o.nodup).1 (e ▸ hy); have hyn := o.lt (List.mem_cons_of_mem _ hy); obtain ⟨p, hp, hyp⟩ := o.fwd i hi; have hp2 := h.done p hp
  have hpP : p ∈ r :: P := by
    rcases List.mem_cons.1 hp with rfl | hp
    · exact List.mem_cons_self ..
    · exact List.mem_cons_of_mem _ (List.mem_of_mem_take hp)
  have hpn := o.lt hpP
  have hex : ∃ z, z < n ∧ Zf S n (Bf t) (P.getD i 0) z := by
    classical
    obtain ⟨z, hz1, hz2, hz3⟩ := h.meetAll o ((List.range n).filter fun p => decide (P.getD i 0 ∈ S p ∧ Bf t p ≠ -2)) (fun p hp => by
      obtain ⟨h1, h2⟩ := List.mem_filter.1 hp
      exact ⟨List.mem_range.1 h1, (of_decide_eq_true h2).2⟩) (fun e => by
      have : p ∈ (List.range n).filter fun p => decide (P.getD i 0 ∈ S p ∧ Bf t p ≠ -2) := List.mem_filter.2 ⟨List.mem_range.2 hpn, decide_eq_true ⟨hyp, hp2⟩⟩
      rw [e] at this; cases this)
    refine ⟨z, hz1, fun w => ?_⟩; rw [hz3 w]
    constructor
    · intro k p hp hyp hpp; exact k p (List.mem_filter.2 ⟨List.mem_range.2 hp, decide_eq_true ⟨hyp, hpp⟩⟩)
    · intro k p hp; obtain ⟨h1, h2⟩ := List.mem_filter.1 hp; exact k p (List.mem_range.1 h1) (of_decide_eq_true h2).1 (of_decide_eq_true h2).2
  have hb : F8 S n t (P.getD i 0) < n ∧ Zf S n (Bf t) (P.getD i 0) (F8 S n t (P.getD i 0)) := by
    unfold F8; rw [dif_pos hex]; exact Classical.choose_spec hex
  exact ⟨h.inv, hyn, hyr, hb.1, hb.2, p, hpn, hyp, hp2, o.at_lt hi hp⟩
theorem Ready.best_eq (o : Ordered S r n P) {t : List Int} {i : Nat} (h : Ready S r n P t i) (hi : i < P.length) {z : Nat} (hz : z < n) (hz2 : Bf t z ≠ -2) (hb : Zf S n (Bf t) (P.getD i 0) z) : z = F8 S n t (P.getD i 0) := by
  have b := h.best o hi; exact (h.inv.antisymm ((hb _).2 ((b.best _).1 (.refl _))) ((b.best _).2 ((hb _).1 (.refl _))) hz hz2).symm
theorem Ready.next (o : Ordered S r n P) {t : List Int} {i : Nat} (h : Ready S r n P t i) (hi : i < P.length) : Ready S r n P (t.set (P.getD i 0) (F8 S n t (P.getD i 0) : Int)) (i + 1) := by
  have b := h.best o hi; have e := Xo (t := t) (y := P.getD i 0) (v := (F8 S n t (P.getD i 0) : Int)) (by rw [h.len]; exact b.hy); refine ⟨by rw [e]; exact b.inv', by rw [List.length_set]; exact h.len, fun x hx => ?_⟩; rw [e]; unfold Gp
  split
  · omega
  · rename_i hne
    refine h.done x ?_; rcases List.mem_cons.1 hx with rfl | hx
    · exact List.mem_cons_self ..
    · rw [List.take_succ_eq_append_getElem hi] at hx; rcases List.mem_append.1 hx with hx | hx
      · exact List.mem_cons_of_mem _ hx
      · rw [List.mem_singleton, ← Ag _ _ 0 hi] at hx; exact absurd hx hne
theorem Ready.more (o : Ordered S r n P) {t : List Int} (h : Ready S r n P t P.length) (i : Nat) : Ready S r n P t i :=
  ⟨h.inv, h.len, fun x hx => h.done x (by
    rw [List.take_length]; rcases List.mem_cons.1 hx with rfl | hx
    · exact List.mem_cons_self ..
    · exact List.mem_cons_of_mem _ (List.mem_of_mem_take hx))⟩
theorem Ready.full (o : Ordered S r n P) {t : List Int} (h : Ready S r n P t P.length) : Zp S r n (Bf t) := fun x hx hr => h.done x (by rw [List.take_length]; exact (o.mem x).2 hr)
theorem Ready.round (o : Ordered S r n P) {t : List Int} (h : Ready S r n P t 0) : ∀ i, i ≤ P.length → Ready S r n P (Kr S n P t i) i := by
  intro i
  induction i with
  | zero => intro _; exact h
  | succ i ih => intro hi; exact (ih (by omega)).next o (by omega)
theorem ready0 (o : Ordered S r n P) : Ready S r n P (Du n r) 0 := by
  obtain ⟨h1, h2, h3⟩ := inv0 o; exact ⟨h1, h2, fun x hx => by simp at hx; subst hx; exact h3⟩
theorem Ready.rounds (o : Ordered S r n P) : ∀ j, Ready S r n P (Qd S n P (Du n r) j) 0 := by
  intro j
  induction j with
  | zero => exact ready0 o
  | succ j ih => exact ((ih.round o) P.length (Nat.le_refl _)).more o 0
theorem Ready.rounds' (o : Ordered S r n P) (j : Nat) : Ready S r n P (Qd S n P (Du n r) (j + 1)) P.length := (Ready.rounds o j).round o P.length (Nat.le_refl _)
theorem qb_round (o : Ordered S r n P) {t : List Int} {k : Nat} (h : Ready S r n P t P.length) (q : QB S r n (Bf t) fun _ => k) : QB S r n (Bf (Kr S n P t P.length)) fun _ => k + 1 := by
  have key : ∀ i, i ≤ P.length → QB S r n (Bf (Kr S n P t i)) (fun x => if x ∈ P.take i then k + 1 else k) ∧ Zp S r n (Bf (Kr S n P t i)) := by
    intro i
    induction i with
    | zero => intro _; exact ⟨by simpa [Kr] using q, h.full o⟩
    | succ i ih =>
      intro hi; obtain ⟨q1, f1⟩ := ih (by omega); have rd := (h.more o 0).round o i (by omega); have b := rd.best o (by omega); have e := Xo (t := Kr S n P t i) (y := P.getD i 0) (v := (F8 S n (Kr S n P t i) (P.getD i 0) : Int)) (by rw [rd.len]; exact b.hy)
      constructor
      · show QB S r n (Bf ((Kr S n P t i).set _ _)) _
        rw [e]; have := b.qb (k := k) o.hS o.hr f1 (fun x _ => by split <;> omega) q1; intro x hx hp z hz; refine this x hx hp z ?_
        dsimp only at hz ⊢
        rw [List.take_succ_eq_append_getElem (by omega : i < P.length)] at hz
        by_cases e1 : x = P.getD i 0
        · rw [if_pos e1]; rwa [if_pos (List.mem_append.2 (.inr (List.mem_singleton.2 (by rw [e1, Ag _ _ _ (by omega : i < P.length)]))))] at hz
        · rw [if_neg e1]
          by_cases e2 : x ∈ P.take i
          · rw [if_pos e2]; rwa [if_pos (List.mem_append.2 (.inl e2))] at hz
          · rw [if_neg e2]
            rwa [if_neg (fun hm => by
              rcases List.mem_append.1 hm with hm | hm
              · exact e2 hm
              · rw [List.mem_singleton, ← Ag _ _ 0 (by omega : i < P.length)] at hm; exact e1 hm)] at hz
      · show Zp S r n (Bf ((Kr S n P t i).set _ _))
        rw [e]; intro x hx hr; unfold Gp
        split
        · omega
        · exact f1 x hx hr
  have q1 := (key P.length (Nat.le_refl _)).1; rw [List.take_length] at q1; have rd := (h.more o 0).round o P.length (Nat.le_refl _); intro x hx hp z hz; refine q1 x hx hp z ?_
  dsimp only at hz ⊢
  by_cases e : x ∈ P
  · rw [if_pos e]; exact hz
  · rw [if_neg e]
    have hxr : x = r := by
      rcases List.mem_cons.1 ((o.mem x).2 (rd.inv.rc x hx hp)) with h1 | h1
      · exact h1
      · exact absurd h1 e
    subst hxr; exact .root hz.av.ne k
def Kp (S : Nat → List Nat) (n : Nat) (P : List Nat) (t : List Int) : Prop := ∀ i, i < P.length → Bf t (P.getD i 0) = (F8 S n t (P.getD i 0) : Int)
theorem Lu {t : List Int} (o : Ordered S r n P) (hl : t.length = n) (h : Kp S n P t) : ∀ i, i ≤ P.length → Kr S n P t i = t := by
  intro i
  induction i with
  | zero => intro _; rfl
  | succ i ih =>
    intro hi; unfold Kr; rw [ih (by omega), ← h i (by omega)]
    have hlt : P.getD i 0 < t.length := by rw [hl]; exact o.lt (List.mem_cons_of_mem _ (H3 (by omega)))
    unfold Bf; rw [Ag _ _ _ hlt]; exact List.set_getElem_self hlt
theorem stops (o : Ordered S r n P) : ∃ J, (∀ j, j < J → ¬ Kp S n P (Qd S n P (Du n r) j)) ∧ Kp S n P (Qd S n P (Du n r) J) := by
  obtain ⟨K, hK⟩ := avn_bound (S := S) (r := r) n
  have hq : ∀ k, QB S r n (Bf (Qd S n P (Du n r) (k + 1))) fun _ => k := by
    intro k
    induction k with
    | zero => exact qb_zero (Ready.rounds' o 0).inv
    | succ k ih => exact qb_round o (Ready.rounds' o k) ih
  have hst : Kp S n P (Qd S n P (Du n r) (K + 1)) := fun i hi => by
    have rd := Ready.rounds' o K; exact ((rd.more o i).best o hi).same o.hS o.hr (rd.full o) (rd.done _ (List.mem_cons_of_mem _ (by rw [List.take_length]; exact H3 hi))) (exact_of rd.inv hK (hq K))
  have key : ∀ m, (∃ J, J ≤ m ∧ Kp S n P (Qd S n P (Du n r) J)) → ∃ J, (∀ j, j < J → ¬ Kp S n P (Qd S n P (Du n r) j)) ∧ Kp S n P (Qd S n P (Du n r) J) := by
    intro m
    induction m with
    | zero => rintro ⟨J, hJ, h⟩; exact ⟨J, fun j hj => by omega, h⟩
    | succ m ih =>
      rintro ⟨J, hJ, h⟩
      by_cases hm : ∃ J, J ≤ m ∧ Kp S n P (Qd S n P (Du n r) J)
      · exact ih hm
      · exact ⟨J, fun j hj hs => hm ⟨j, by omega, hs⟩, h⟩
  exact key (K + 1) ⟨K + 1, Nat.le_refl _, hst⟩
structure DomTree (S : Nat → List Nat) (r n : Nat) (P : List Nat) (t : List Int) : Prop where
  inv : Inv S r n (pos (r :: P)) (Bf t)
  len : t.length = n
  full : Zp S r n (Bf t)
  exact_ : Aae S r n (Bf t)
theorem Pt (o : Ordered S r n P) {j : Nat} (h : Kp S n P (Qd S n P (Du n r) j)) : DomTree S r n P (Qd S n P (Du n r) j) := by
  have rd := Ready.rounds o j
  have hall : Ready S r n P (Qd S n P (Du n r) j) P.length := by
    have := rd.round o P.length (Nat.le_refl _); rwa [Lu o rd.len h P.length (Nat.le_refl _)] at this
  refine ⟨rd.inv, rd.len, hall.full o, exact_fix rd.inv o.hS o.hr (hall.full o) fun y hy hne hr => ?_⟩
  have hm : y ∈ P := by
    rcases List.mem_cons.1 ((o.mem y).2 hr) with h1 | h1
    · exact absurd h1 hne
    · exact h1
  obtain ⟨i, hi, rfl⟩ := List.getElem_of_mem hm; have b := (hall.more o i).best o hi; rw [Ag _ _ _ hi] at b; have hs := h i hi; rw [Ag _ _ _ hi] at hs; exact ⟨_, hs, b.best⟩
end
end
end Go.Proofs.Ytjpacggpipflcaa

namespace Go.Proofs.Ytjpacggpipflcaa
noncomputable section
open Go Go.RowKit
set_option linter.unusedVariables false
set_option linter.unusedSimpArgs false
section
variable {S : Nat → List Nat} {s s' : Nat → Bool} {l o : List Nat}
theorem VL.before (h : VL S s l s' o) : ∀ A z B, o = A ++ z :: B → z ∈ l ∨ ∃ p ∈ B, z ∈ S p := by
  induction h with
  | nil s => intro A z B e; simp at e
  | skip h _ ih =>
    intro A z B e; rcases ih A z B e with h1 | h1
    · exact .inl (List.mem_cons_of_mem _ h1)
    · exact .inr h1
  | @step s s1 s2 y l o1 o2 h a b iha ihb =>
    intro A z B e; rcases List.append_eq_append_iff.1 e with ⟨C, hC1, hC2⟩ | ⟨C, hC1, hC2⟩
    ·
      cases C with
      | nil =>
        simp at hC2; obtain ⟨rfl, rfl⟩ := hC2; exact .inl (List.mem_cons_self ..)
      | cons c C =>
        simp at hC2; obtain ⟨rfl, hC2⟩ := hC2; rcases ihb C z B hC2 with h1 | h1
        · exact .inl (List.mem_cons_of_mem _ h1)
        · exact .inr h1
    · cases C with
      | nil =>
        simp at hC2; obtain ⟨rfl, rfl⟩ := hC2; exact .inl (List.mem_cons_self ..)
      | cons c C =>
        simp at hC2; obtain ⟨rfl, rfl⟩ := hC2; rcases iha A z C hC1 with h1 | ⟨p, hp, hz⟩
        · exact .inr ⟨y, by simp, h1⟩
        · exact .inr ⟨p, by simp [hp], hz⟩
theorem Ord.ordered {n r : Nat} {L : List Nat} (hr : r < n) (hS : ∀ x, x < n → ∀ w ∈ S x, w < n) (h : Ord S r L) : ∃ P, L = r :: P ∧ Ordered S r n P := by
  have h1 := h.nodup; have h2 := h.mem; obtain ⟨s', o, hv, rfl⟩ := h; refine ⟨o.reverse, rfl, hr, hS, h1, fun x => by rw [h2 x, rc_iff], fun i hi => ?_⟩
  have hi' : i < o.length := by simpa using hi
  have e : o.reverse = o.reverse.take i ++ o.reverse[i] :: o.reverse.drop (i + 1) := by rw [← List.drop_eq_getElem_cons hi, List.take_append_drop]
  have e2 : o = (o.reverse.drop (i + 1)).reverse ++ o.reverse[i] :: (o.reverse.take i).reverse := by
    have := congrArg List.reverse e; rw [List.reverse_reverse] at this; rw [List.reverse_append, List.reverse_cons] at this
    simpa using this
  rw [Ag _ _ _ hi]; rcases hv.before _ _ _ e2 with h3 | ⟨p, hp, hz⟩
  · exact ⟨r, List.mem_cons_self .., h3⟩
  · exact ⟨p, List.mem_cons_of_mem _ (List.mem_reverse.1 hp), hz⟩
end
def woI (S : Nat → List Nat) (w : Int) : Nat → List Nat := fun x => (S x).filter fun y => decide ((y : Int) ≠ w)
theorem woI_none (S : Nat → List Nat) : woI S (-1) = S := by
  funext x
  unfold woI; exact List.filter_eq_self.2 fun y _ => decide_eq_true (by omega)
theorem woI_nat (S : Nat → List Nat) (z : Nat) : woI S (z : Int) = wo S z := by
  funext x
  unfold woI wo
  congr 1
  funext y
  exact decide_eq_decide.2 ⟨fun h e => h (by rw [e]), fun h e => h (Int.ofNat.inj e)⟩
def Ig (L : List (List Int)) (r : Nat) (w : Int) : List Bool := if (r : Int) = w then List.replicate L.length false else Up (woI (sN L) w) L.length ((List.replicate L.length false).set r true) L.length
theorem Gk {L : List (List Int)} (hm : Eu L = true) {r : Nat} (hr : r < L.length) {b : Nat} : (Ig L r (-1)).getD b false = true ↔ Rc (sN L) r b := by
  unfold Ig; rw [if_neg (by omega), woI_none, Wc (Is hm) hr b, rc_iff]
theorem Id {L : List (List Int)} (hm : Eu L = true) {r : Nat} (hr : r < L.length) {a b : Nat} (hb : b < L.length) : (Ig L r (a : Int)).getD b false = true ↔ Av (sN L) r a b := by
  unfold Ig; rw [av_iff]
  by_cases h : r = a
  · subst h; rw [if_pos rfl, F5]
    simp
  · rw [if_neg (by omega), woI_nat, Wc (S := wo (sN L) a) (fun z hz y hy => Is hm z hz y (List.mem_filter.1 hy).1) hr b]; simp [h]
def Gt (L : List (List Int)) (r a b : Nat) : Bool := (Ig L r (-1)).getD b false && !(Ig L r (a : Int)).getD b false
theorem N7 {L : List (List Int)} (hm : Eu L = true) {r a b : Nat} (hr : r < L.length) (hb : b < L.length) : Gt L r a b = true ↔ Rc (sN L) r b ∧ ¬ Av (sN L) r a b := by
  unfold Gt; rw [Bool.and_eq_true, Bool.not_eq_true', ← Bool.not_eq_true, Gk hm hr, Id hm hr hb]
def Wi (L : List (List Int)) (r a b : Nat) : Bool := (List.range L.length).all fun c => decide (c = b) || !Gt L r c b || Gt L r c a
def Ws (L : List (List Int)) (r b : Nat) : Nat → Int
  | 0 => -2
  | a + 1 => if a ≠ b ∧ Gt L r a b = true ∧ Wi L r a b = true then (a : Int) else Ws L r b a
def Ze (L : List (List Int)) (r b : Nat) : Int := if b = r then -1 else Ws L r b L.length
def Hk (L : List (List Int)) (r : Nat) : List Int := (List.range L.length).map (Ze L r)
theorem Ot (L : List (List Int)) (r : Nat) : (Hk L r).length = L.length := by simp [Hk]
theorem treeD_at {L : List (List Int)} {r b : Nat} (hb : b < L.length) : (Hk L r).getD b 0 = Ze L r b := by unfold Hk; rw [I5 hb]
theorem pick_cases (L : List (List Int)) (r b : Nat) : ∀ m, (Ws L r b m = -2 ∧ ∀ a, a < m → ¬ (a ≠ b ∧ Gt L r a b = true ∧ Wi L r a b = true)) ∨ ∃ a, a < m ∧ Ws L r b m = (a : Int) ∧ a ≠ b ∧ Gt L r a b = true ∧ Wi L r a b = true := by
  intro m
  induction m with
  | zero => exact .inl ⟨rfl, fun a ha => absurd ha (Nat.not_lt_zero a)⟩
  | succ m ih =>
    unfold Ws
    by_cases h : m ≠ b ∧ Gt L r m b = true ∧ Wi L r m b = true
    · rw [if_pos h]; exact .inr ⟨m, by omega, rfl, h⟩
    · rw [if_neg h]; rcases ih with ⟨h1, h2⟩ | ⟨a, h1, h2⟩
      · refine .inl ⟨h1, fun a ha => ?_⟩; rcases Nat.lt_succ_iff_lt_or_eq.1 ha with h3 | rfl
        · exact h2 a h3
        · exact h
      · exact .inr ⟨a, by omega, h2⟩
theorem DomTree.eq {L : List (List Int)} (hm : Eu L = true) {r : Nat} (hr : r < L.length) {P t : List _} (o : Ordered (sN L) r L.length P) (h : DomTree (sN L) r L.length P t) : t = Hk L r := by
  refine List.ext_getElem (by rw [h.len, Ot]) fun b h1 h2 => ?_
  have hb : b < L.length := by rw [← h.len]; exact h1
  rw [← Ag _ _ 0 h1, ← Ag _ _ 0 h2, treeD_at hb]
  show Bf t b = _
  have hov : ∀ a b, b < L.length → Bf t b ≠ -2 → (Gt L r a b = true ↔ UpTo (Bf t) b a) := fun a b hb hp => by
    rw [N7 hm hr hb, h.exact_ b hb hp]; exact ⟨fun k => k.2, fun k => ⟨h.inv.rc b hb hp, k⟩⟩
  unfold Ze
  by_cases hbr : b = r
  · subst hbr; rw [if_pos rfl]; exact h.inv.top
  · rw [if_neg hbr]; rcases h.inv.kind b hb with hk | hk | ⟨z, hz⟩
    ·
      have hn : ¬ Rc (sN L) r b := fun k => h.full b hb k hk; rcases pick_cases L r b L.length with ⟨h3, _⟩ | ⟨a, _, _, _, h6, _⟩
      · rw [hk, h3]
      · exact absurd ((N7 hm hr hb).1 h6).1 hn
    · exact absurd hk hbr
    · obtain ⟨z1, z2, z3, z4⟩ := h.inv.up b hb z hz
      have hp : Bf t b ≠ -2 := by omega
      have hzo : Gt L r z b = true := (hov z b hb hp).2 (.up hz (.refl _))
      have hzb : z ≠ b := by rintro rfl; omega
      have hnear : Wi L r z b = true := all_range.2 fun c hc => by
        by_cases e : c = b
        · simp [e]
        · cases ho : Gt L r c b with
          | false => simp
          | true =>
            have := (hov c b hb hp).1 ho; rcases (anc_up hz).1 this with h3 | h3
            · exact absurd h3 e
            · rw [(hov c z z1 z2).2 h3]; simp
      rcases pick_cases L r b L.length with ⟨_, h3⟩ | ⟨a, h3, h4, h5, h6, h7⟩
      · exact absurd ⟨hzb, hzo, hnear⟩ (h3 z z1)
      · rw [h4, hz]; have haU := (hov a b hb hp).1 h6
        have ha1 : UpTo (Bf t) z a := by
          rcases (anc_up hz).1 haU with h8 | h8
          · exact absurd h8 h5
          · exact h8
        have hap := (h.inv.anc ha1 z1 z2).2.1
        have hza : UpTo (Bf t) a z := by
          have := all_range.1 h7 z z1; simp only [hzo, hzb, decide_false, Bool.not_true, Bool.false_or] at this; exact (hov z a h3 hap).1 this
        rw [h.inv.antisymm ha1 hza z1 z2]
end
end Go.Proofs.Ytjpacggpipflcaa

namespace Go.Proofs.Ytjpacggpipflcaa
noncomputable section
open Go Go.RowKit
set_option linter.unusedVariables false
set_option linter.unusedSimpArgs false
theorem L2 {g : Ap} (h : Hs g = true) : Eu g.Succ = true ∧ g = I4 g.Succ := by
  unfold Hs at h; rw [Bool.and_eq_true] at h; refine ⟨h.1, ?_⟩; obtain ⟨s, p⟩ := g; have := of_decide_eq_true h.2; simp only at this; unfold I4; rw [this]
section
variable {L : List (List Int)} (hm : Eu L = true) {r : Nat} (hr : r < L.length)
include hm hr
omit hr in
omit hr in
omit hm hr in
omit hm hr in
omit hm hr in
omit hr in
omit hr in
end
def treeG (g : Ap) (r : Int) : List Int := if Hs g = true ∧ 0 ≤ r ∧ r < (g.Succ.length : Int) then Hk g.Succ r.toNat else []
end
end Go.Proofs.Ytjpacggpipflcaa

namespace Go.Proofs.Ytjpacggpipflcaa
noncomputable section
open Go Go.RowKit
set_option linter.unusedVariables false
set_option linter.unusedSimpArgs false
def upD (t : List Int) : Nat → Int → Option (List Int)
  | 0, _ => none
  | k + 1, a => if 0 ≤ a ∧ a < (t.length : Int) then (if t.getD a.toNat 0 = -1 then some [a] else (upD t k (t.getD a.toNat 0)).map fun l => a :: l) else none
def E0 (t : List Int) (a : Int) : List Int := (upD t t.length a).getD []
theorem upD_len (t : List Int) : ∀ k a q, upD t k a = some q → q.length ≤ k ∧ 1 ≤ q.length := by
  intro k
  induction k with
  | zero => intro a q h; cases h
  | succ k ih =>
    intro a q h; unfold upD at h
    split at h
    · split at h
      · cases h; simp
      · cases hu : upD t k (t.getD a.toNat 0) with
        | none => rw [hu] at h; cases h
        | some q' => rw [hu] at h; cases h; have := ih _ _ hu; simp; omega
    · cases h
theorem pathD_nil {t : List Int} {a : Int} : E0 t a = [] ↔ upD t t.length a = none := by
  unfold E0
  cases h : upD t t.length a with
  | none => simp
  | some q => have := (upD_len t _ _ _ h).2; simp; intro e; subst e; simp at this
def Of (t : List Int) (k : Nat) : Nat := ((List.range k).filter fun a => decide (t.getD a 0 = -1)).length
def okR (t : List Int) (a : Nat) : Bool := decide (t.getD a 0 = -2) || !decide (E0 t (a : Int) = [])
def Fi (t : List Int) : Bool := (List.range t.length).all (okR t) && decide (Of t t.length = 1)
theorem R9 (t : List Int) (k : Nat) : Of t (k + 1) = Of t k + if t.getD k 0 = -1 then 1 else 0 := by
  unfold Of; rw [List.range_succ, List.filter_append, List.length_append]
  by_cases h : t.getD k 0 = -1
  · rw [if_pos h]
    have : List.filter (fun a => decide (t.getD a 0 = -1)) [k] = [k] := by rw [List.filter_cons, if_pos (decide_eq_true h)]; rfl
    rw [this]; rfl
  · rw [if_neg h]
    have : List.filter (fun a => decide (t.getD a 0 = -1)) [k] = [] := by rw [List.filter_cons, if_neg (by simpa using h)]; rfl
    rw [this]; rfl
def Jq (t : List Int) (a b : Int) : Int := if Fi t = true then ((E0 t a).find? fun x => (E0 t b).contains x).getD (-2) else -2
def Tv (t : List Int) (a b : Int) : Bool := Jq t a b == a && Jq t a b != -2
theorem filt_succ (p : Nat → Bool) (k : Nat) : ((List.range (k + 1)).filter p).map Int.ofNat = ((List.range k).filter p).map Int.ofNat ++ (if p k = true then [(k : Int)] else []) := by
  rw [List.range_succ, List.filter_append, List.map_append]
  congr 1
  cases h : p k with
  | true => simp [List.filter_cons, h]
  | false => simp [List.filter_cons, h]
theorem Xx (p : Nat → Bool) (k : Nat) : (((List.range k).filter p).map Int.ofNat).length ≤ k := by
  rw [List.length_map]; exact Nat.le_trans (List.length_filter_le ..) (by simp)
end
end Go.Proofs.Ytjpacggpipflcaa

namespace Go.Proofs.Ytjpacggpipflcaa
noncomputable section
open Go Go.RowKit
set_option linter.unusedVariables false
set_option linter.unusedSimpArgs false
section
variable {S : Nat → List Nat} {r n : Nat} {P : List Nat} {t : List Int}
theorem DomTree.up (h : DomTree S r n P t) : ∀ k x, x < n → Bf t x ≠ -2 → pos (r :: P) x < k → ∃ q, upD t k (x : Int) = some q ∧ (∀ w : Int, w ∈ q ↔ ∃ z : Nat, w = (z : Int) ∧ UpTo (Bf t) x z) ∧
    ∀ p : Int → Bool, (q.find? p = none ∧ ∀ z : Nat, UpTo (Bf t) x z → p (z : Int) = false) ∨ ∃ f : Nat, q.find? p = some (f : Int) ∧ UpTo (Bf t) x f ∧ p (f : Int) = true ∧ ∀ z : Nat, UpTo (Bf t) x z → p (z : Int) = true → UpTo (Bf t) f z := by
  intro k
  induction k with
  | zero => intro x _ _ hk; exact absurd hk (Nat.not_lt_zero _)
  | succ k ih =>
    intro x hx hp hk
    have hxt : (0 : Int) ≤ (x : Int) ∧ (x : Int) < (t.length : Int) := by rw [h.len]; omega
    unfold upD; rw [if_pos hxt, An]; have hpx : t.getD x 0 = Bf t x := rfl; rw [hpx]; rcases h.inv.kind x hx with h1 | rfl | ⟨z, hz⟩
    · exact absurd h1 hp
    · rw [if_pos h.inv.top]; refine ⟨_, rfl, fun w => ?_, fun p => ?_⟩
      · rw [List.mem_singleton]
        constructor
        · rintro rfl; exact ⟨x, rfl, .refl _⟩
        · rintro ⟨z, rfl, hz⟩; rw [h.inv.root_anc.1 hz]
      · cases hpp : p (x : Int) with
        | false => exact .inl ⟨by simp [List.find?, hpp], fun z hz => by rw [h.inv.root_anc.1 hz]; exact hpp⟩
        | true => exact .inr ⟨x, by simp [List.find?, hpp], .refl _, hpp, fun z hz _ => hz⟩
    · obtain ⟨z1, z2, z3, z4⟩ := h.inv.up x hx z hz; rw [hz, if_neg (by omega)]; obtain ⟨q, hq1, hq2, hq3⟩ := ih z z1 z2 (by omega); rw [hq1]; refine ⟨(x : Int) :: q, rfl, fun w => ?_, fun p => ?_⟩
      · rw [List.mem_cons, hq2 w]
        constructor
        · rintro (rfl | ⟨y, rfl, hy⟩)
          · exact ⟨x, rfl, .refl _⟩
          · exact ⟨y, rfl, .up hz hy⟩
        · rintro ⟨y, rfl, hy⟩; rcases (anc_up hz).1 hy with rfl | hy
          · exact .inl rfl
          · exact .inr ⟨y, rfl, hy⟩
      · cases hpp : p (x : Int) with
        | true => exact .inr ⟨x, by simp [List.find?, hpp], .refl _, hpp, fun y hy _ => hy⟩
        | false =>
          have hf : ((x : Int) :: q).find? p = q.find? p := by simp [List.find?, hpp]
          rw [hf]; rcases hq3 p with ⟨e1, e2⟩ | ⟨f, e1, e2, e3, e4⟩
          · refine .inl ⟨e1, fun y hy => ?_⟩; rcases (anc_up hz).1 hy with rfl | hy
            · exact hpp
            · exact e2 y hy
          · refine .inr ⟨f, e1, .up hz e2, e3, fun y hy hpy => ?_⟩; rcases (anc_up hz).1 hy with rfl | hy
            · rw [hpp] at hpy; cases hpy
            · exact e4 y hy hpy
theorem Ordered.pos_lt (o : Ordered S r n P) {x : Nat} (hx : x ∈ r :: P) : pos (r :: P) x < n := by
  obtain ⟨j, hj, rfl⟩ := List.getElem_of_mem hx; rw [(I6 o.nodup hj).2]; have := G7 n (r :: P) o.nodup fun y hy => o.lt hy; omega
theorem DomTree.path (h : DomTree S r n P t) (o : Ordered S r n P) {x : Nat} (hx : x < n) (hp : Bf t x ≠ -2) : E0 t (x : Int) ≠ [] ∧ (∀ w : Int, w ∈ E0 t (x : Int) ↔ ∃ z : Nat, w = (z : Int) ∧ UpTo (Bf t) x z) ∧
    ∀ p : Int → Bool, ((E0 t (x : Int)).find? p = none ∧ ∀ z : Nat, UpTo (Bf t) x z → p (z : Int) = false) ∨ ∃ f : Nat, (E0 t (x : Int)).find? p = some (f : Int) ∧ UpTo (Bf t) x f ∧ p (f : Int) = true ∧ ∀ z : Nat, UpTo (Bf t) x z → p (z : Int) = true → UpTo (Bf t) f z := by
  have hm := (o.mem x).2 (h.inv.rc x hx hp); obtain ⟨q, h1, h2, h3⟩ := h.up n x hx hp (o.pos_lt hm)
  have e : E0 t (x : Int) = q := by unfold E0; rw [h.len, h1]; rfl
  rw [e]; refine ⟨fun e => ?_, h2, h3⟩; have := (h2 (x : Int)).2 ⟨x, rfl, .refl _⟩; rw [e] at this
  cases this
theorem DomTree.nopath (h : DomTree S r n P t) {x : Nat} (hx : x < n) (hp : Bf t x = -2) : E0 t (x : Int) = [] := by
  rw [pathD_nil]
  cases hl : t.length with
  | zero => rfl
  | succ k =>
    unfold upD; rw [if_pos ⟨by omega, by rw [h.len]; omega⟩, An, show t.getD x 0 = Bf t x from rfl, hp, if_neg (by omega)]
    cases k with
    | zero => rfl
    | succ k => unfold upD; rw [if_neg (by omega)]; rfl
theorem DomTree.right (h : DomTree S r n P t) (o : Ordered S r n P) : Fi t = true := by
  unfold Fi; rw [Bool.and_eq_true]
  constructor
  · refine all_range.2 fun x hx => ?_; rw [h.len] at hx; unfold okR
    by_cases hp : Bf t x = -2
    · rw [show t.getD x 0 = Bf t x from rfl, hp]; rfl
    · rw [decide_eq_false (h.path o hx hp).1]; simp
  · apply decide_eq_true
    have key : ∀ k, k ≤ n → Of t k = if r < k then 1 else 0 := by
      intro k
      induction k with
      | zero => intro _; rfl
      | succ k ih =>
        intro hk; rw [R9, ih (by omega)]
        have hr : t.getD k 0 = -1 ↔ k = r := by
          constructor
          · intro he; rcases h.inv.kind k (by omega) with h1 | h1 | ⟨z, hz⟩
            · rw [show t.getD k 0 = Bf t k from rfl, h1] at he; omega
            · exact h1
            · rw [show t.getD k 0 = Bf t k from rfl, hz] at he; omega
          · rintro rfl; exact h.inv.top
        by_cases hkr : k = r
        · subst hkr; rw [if_neg (by omega), if_pos (hr.2 rfl), if_pos (by omega)]
        · rw [if_neg (fun e => hkr (hr.1 e))]
          by_cases h2 : r < k
          · rw [if_pos h2, if_pos (by omega)]
          · rw [if_neg h2, if_neg (by omega)]
    rw [h.len, key n (Nat.le_refl _), if_pos o.hr]
theorem DomTree.meet (h : DomTree S r n P t) (o : Ordered S r n P) {a b : Nat} (ha : a < n) (hb : b < n) (hpa : Bf t a ≠ -2) (hpb : Bf t b ≠ -2) : ∃ m : Nat, Jq t (a : Int) (b : Int) = (m : Int) ∧ MeetAt (Bf t) a b m ∧ m < n ∧ Bf t m ≠ -2 := by
  have rd : Ready S r n P t P.length := ⟨h.inv, h.len, fun x hx => by rw [List.take_length] at hx; exact h.full x (o.lt hx) ((o.mem x).1 hx)⟩; obtain ⟨c, hc1, hc2, hc3⟩ := h.inv.meets (rd.inj o) Vr _ a b (Nat.le_refl _) ha hb hpa hpb; refine ⟨c, ?_, hc1, hc2, hc3⟩; unfold Jq; rw [if_pos (h.right o)]; obtain ⟨hca, hcb⟩ := (hc1 c).1 (.refl _)
  have hin : ∀ z : Nat, (E0 t (b : Int)).contains (z : Int) = true ↔ UpTo (Bf t) b z := fun z => by
    rw [List.contains_iff_mem, (h.path o hb hpb).2.1]
    constructor
    · rintro ⟨y, hy, hu⟩; cases Int.ofNat.inj hy; exact hu
    · intro hu; exact ⟨z, rfl, hu⟩
  rcases (h.path o ha hpa).2.2 fun x => (E0 t (b : Int)).contains x with ⟨_, h2⟩ | ⟨f, h1, h2, h3, h4⟩
  · have := h2 c hca; rw [(hin c).2 hcb] at this
    cases this
  · rw [h1]; have hfc := h4 c hca ((hin c).2 hcb); have hcf := (hc1 f).2 ⟨h2, (hin f).1 h3⟩; rw [h.inv.antisymm hcf hfc hc2 hc3]
    rfl
theorem DomTree.meet_none (h : DomTree S r n P t) (o : Ordered S r n P) {a b : Nat} (ha : a < n) (hb : b < n) (hp : Bf t a = -2 ∨ Bf t b = -2) : Jq t (a : Int) (b : Int) = -2 := by
  unfold Jq; rw [if_pos (h.right o)]; rcases hp with hp | hp
  · rw [h.nopath ha hp]; rfl
  · rw [h.nopath hb hp]
    have : (E0 t (a : Int)).find? (fun x => ([] : List Int).contains x) = none := List.find?_eq_none.2 fun x _ => by simp
    rw [this]; rfl
theorem DomTree.over (h : DomTree S r n P t) (o : Ordered S r n P) {a b : Nat} (ha : a < n) (hb : b < n) : Tv t (a : Int) (b : Int) = true ↔ Bf t b ≠ -2 ∧ UpTo (Bf t) b a := by
  unfold Tv; rw [Bool.and_eq_true, beq_iff_eq, bne_iff_ne]
  by_cases hpa : Bf t a = -2
  · rw [h.meet_none o ha hb (.inl hpa)]
    constructor
    · rintro ⟨h1, _⟩; omega
    · rintro ⟨h1, h2⟩; exact absurd hpa (h.inv.anc h2 hb h1).2.1
  · by_cases hpb : Bf t b = -2
    · rw [h.meet_none o ha hb (.inr hpb)]
      constructor
      · rintro ⟨h1, _⟩; omega
      · rintro ⟨h1, _⟩; exact absurd hpb h1
    · obtain ⟨m, hm1, hm2, hm3, hm4⟩ := h.meet o ha hb hpa hpb; rw [hm1]
      constructor
      · rintro ⟨h1, _⟩; have h1 := Int.ofNat.inj h1; subst h1; exact ⟨hpb, ((hm2 _).1 (.refl _)).2⟩
      · rintro ⟨_, h2⟩; have := (hm2 a).2 ⟨.refl _, h2⟩; have h3 := ((hm2 m).1 (.refl _)).1; rw [h.inv.antisymm h3 this ha hpa]; exact ⟨rfl, by omega⟩
theorem DomTree.over_dom (h : DomTree S r n P t) (o : Ordered S r n P) {a b : Nat} (ha : a < n) (hb : b < n) : Tv t (a : Int) (b : Int) = true ↔ Rc S r b ∧ ¬ Av S r a b := by
  rw [h.over o ha hb]
  constructor
  · rintro ⟨h1, h2⟩; exact ⟨h.inv.rc b hb h1, (h.exact_ b hb h1 a).1 h2⟩
  · rintro ⟨h1, h2⟩; have := h.full b hb h1; exact ⟨this, (h.exact_ b hb this a).2 h2⟩
end
section
variable {L : List (List Int)} (hm : Eu L = true) {r : Nat} (hr : r < L.length)
include hm hr
theorem treeD_dom : ∃ P, Ord (sN L) r (r :: P) ∧ Ordered (sN L) r L.length P ∧ DomTree (sN L) r L.length P (Hk L r) := by
  obtain ⟨O, hO⟩ := Ord.exist (Is hm) hr; obtain ⟨P, rfl, o⟩ := hO.ordered hr (Is hm); obtain ⟨J, _, hJ⟩ := stops o; have hd := Pt o hJ; refine ⟨P, hO, o, ?_⟩; rw [← hd.eq hm hr o]; exact hd
end
end
end Go.Proofs.Ytjpacggpipflcaa

namespace Go.Proofs.Ytjpacggpipflcaa
noncomputable section
open Go Go.RowKit
set_option linter.unusedVariables false
set_option linter.unusedSimpArgs false
def Mq (L : List (List Int)) (a b : Nat) : Bool := Mx L a b && Gt L 0 b a
def Hv (L : List (List Int)) (a m : Nat) : List (Int × Int) := ((List.range m).filter (Mq L a)).map fun b => ((a : Int), ((b : Nat) : Int))
def K6 (L : List (List Int)) (m : Nat) : List (Int × Int) := ((List.range m).map fun a => Hv L a L.length).flatten
def Bz (L : List (List Int)) : List (Int × Int) := K6 L L.length
def Jz (L : List (List Int)) (x : Nat) : Bool := (Ig L 0 (-1)).getD x false
def Gs (L : List (List Int)) (h : Nat) : Bool := (Bz L).any fun p => p.2 == (h : Int)
def inBy (L : List (List Int)) (h x : Nat) (p : Int × Int) : Bool := (p.2 == (h : Int)) && (decide (x ≠ h) && (Jz L x && (Ig L x (h : Int)).getD p.1.toNat false))
def Pu (L : List (List Int)) (h x : Nat) : Bool := decide (x = h) || (Bz L).any (inBy L h x)
def Mw (L : List (List Int)) (h : Nat) : List Int := ((List.range L.length).filter (Pu L h)).map Int.ofNat
def Er (L : List (List Int)) : List A1 := ((List.range L.length).filter (Gs L)).map fun h => ⟨((h : Nat) : Int), Mw L h⟩
section
variable {L : List (List Int)}
theorem W0 (a m : Nat) : (Hv L a m).length ≤ m := by
  unfold Hv; rw [List.length_map]; exact Nat.le_trans (List.length_filter_le ..) (by simp)
theorem Wr (m : Nat) : K6 L (m + 1) = K6 L m ++ Hv L m L.length := by
  unfold K6; rw [List.range_succ, List.map_append, List.flatten_append]
  simp
theorem Rw (m : Nat) : (K6 L m).length ≤ m * L.length := by
  have := Yn (List.range m) (fun a => Hv L a L.length) L.length fun a _ => W0 a _; rw [List.length_range] at this; exact this
theorem mem_backs {p : Int × Int} : p ∈ Bz L ↔ ∃ a b : Nat, p = ((a : Int), (b : Int)) ∧ a < L.length ∧ b < L.length ∧ Mq L a b = true := by
  unfold Bz K6 Hv; simp only [List.mem_flatten, List.mem_map, List.mem_range]
  constructor
  · rintro ⟨_, ⟨a, ha, rfl⟩, hd⟩; obtain ⟨b, hb, rfl⟩ := List.mem_map.1 hd; obtain ⟨h1, h2⟩ := List.mem_filter.1 hb; exact ⟨a, b, rfl, ha, List.mem_range.1 h1, h2⟩
  · rintro ⟨a, b, rfl, ha, hb, h⟩; exact ⟨_, ⟨a, ha, rfl⟩, List.mem_map.2 ⟨b, List.mem_filter.2 ⟨List.mem_range.2 hb, h⟩, rfl⟩⟩
theorem L9 (h : L.length ≤ 64) : (Bz L).length ≤ 4096 := Nat.le_trans (Rw _) (Nat.mul_le_mul h h)
variable (hm : Eu L = true)
include hm
end
def Ju (g : Ap) : List (Int × Int) := if Hs g = true then Bz g.Succ else []
def D4 (g : Ap) : List A1 := if Hs g = true then Er g.Succ else []
end
end Go.Proofs.Ytjpacggpipflcaa

namespace Go.Proofs.Ytjpacggpipflcaa
noncomputable section
open Go Go.RowKit
set_option linter.unusedVariables false
set_option linter.unusedSimpArgs false
def F3 (W : List (Int × Int)) (a y : Int) : Bool := W.all fun p => !((p.1 == a) && (p.2 == y))
def Jy (L : List (List Int)) (W : List (Int × Int)) (a : Nat) : List Int := (L.getD a []).filter (F3 W (a : Int))
def Od (L : List (List Int)) (W : List (Int × Int)) : List (List Int) := (List.range L.length).map (Jy L W)
def Vi (C : List (List Int)) (a : Nat) : Bool := (Ig C 0 (-1)).getD a false && (C.getD a []).any fun y => (Ig C y.toNat (-1)).getD a false
def Rz (C : List (List Int)) : Bool := (List.range C.length).any (Vi C)
def Ic (L : List (List Int)) (W : List (Int × Int)) : Bool := Rz (Od L W)
section
variable {L : List (List Int)}
theorem Nw {W : List (Int × Int)} : (Od L W).length = L.length := by simp [Od]
theorem cutL_at {W : List (Int × Int)} {a : Nat} (ha : a < L.length) : (Od L W).getD a [] = Jy L W a := by unfold Od; rw [I5 ha]
theorem V1 : Od L [] = L := by
  have e : L = (List.range L.length).map fun i => L.getD i [] := List.ext_getElem (by simp) fun i h1 h2 => by rw [List.getElem_map, List.getElem_range, Ag _ _ _ h1]
  conv => rhs; rw [e]
  unfold Od; refine Gn fun i hi => ?_; unfold Jy; exact List.filter_eq_self.2 (fun y _ => by simp [F3])
variable (hm : Eu L = true)
include hm
theorem cutL_may (W : List (Int × Int)) : Eu (Od L W) = true := by
  obtain ⟨h1, h2, h3⟩ := mayS_iff.1 hm; refine mayS_iff.2 ⟨by rw [Nw]; exact h1, by rw [Nw]; exact h2, fun i hi => ?_⟩; rw [Nw] at hi; rw [cutL_at hi, Nw]; unfold Jy; exact okL_of (fun x hx => Hw (h3 i hi) (List.mem_filter.1 hx).1) (List.Pairwise.filter _ (Wa (h3 i hi)))
end
def redG (g : Ap) : Bool := Hs g && !Ic g.Succ (Bz g.Succ)
def Y8 (g : Ap) : Bool := Hs g && !Ic g.Succ []
def Hp (l : List A1) (x : Int) : Nat := (l.filter fun z => z.Body.contains x).length
structure Uw : Prop where
  backs : ∀ (g : Ap), Fits g.Succ → Fits g.Pred → Dw g = some (Ju g)
  all : ∀ (g : Ap), Fits g.Succ → Fits g.Pred → Fg g = some (D4 g)
  depth : ∀ (g : Ap) (x : Int), Fits g.Succ → Fits g.Pred → Em g x = some ((Hp (D4 g) x : Nat) : Int)
  red : ∀ (g : Ap), Fits g.Succ → Fits g.Pred → D9 g = some (redG g)
  fwd : ∀ (g : Ap), Fits g.Succ → Fits g.Pred → Ec g = some (Y8 g)
theorem bodyL_len (L : List (List Int)) (h : Nat) : (Mw L h).length ≤ L.length := Xx _ _
theorem Qk (g : Ap) : (D4 g).length ≤ 64 ∧ ∀ l ∈ D4 g, l.Body.length ≤ 64 := by
  unfold D4
  split
  · rename_i h
    have h64 := (mayS_iff.1 (L2 h).1).2.1; refine ⟨?_, fun l hl => ?_⟩
    · unfold Er; rw [List.length_map]; exact Nat.le_trans (List.length_filter_le ..) (by simpa using h64)
    · unfold Er at hl; obtain ⟨k, _, rfl⟩ := List.mem_map.1 hl; exact Nat.le_trans (bodyL_len _ _) h64
  · exact ⟨by simp, fun l hl => by cases hl⟩
def F0 : List (List Int) := [[1], [2, 3], [1], []]
theorem Jv : Eu F0 = true := by decide
theorem Uq : Er F0 = [⟨1, [1, 2]⟩] := by decide +kernel
theorem Vb : Bz F0 = [(2, 1)] := by decide +kernel
theorem Yi : Ic F0 (Bz F0) = false := by decide +kernel
theorem Zq : Ic F0 [] = true := by decide +kernel
theorem m_awake10 (F : Uw) : Dn = some true := by
  unfold Dn
  show Option.bind (Ej F0) _ = _
  obtain ⟨h1, h2⟩ := Nm Jv; have hG : Hs (I4 F0) = true := Ol Jv
  have hl : D4 (I4 F0) = [⟨1, [1, 2]⟩] := by unfold D4; rw [if_pos hG]; exact Uq
  have hb : Ju (I4 F0) = [(2, 1)] := by unfold Ju; rw [if_pos hG]; exact Vb
  have hr : redG (I4 F0) = true := by unfold redG; rw [hG, Bool.true_and]; show (!Ic F0 (Bz F0)) = true; rw [Yi]; rfl
  have hf : Y8 (I4 F0) = false := by unfold Y8; rw [hG, Bool.true_and]; show (!Ic F0 []) = false; rw [Zq]; rfl
  rw [Ym F0 (Kh (L7 Jv)), Jv, cond_true, Option.bind_some]; simp only [F.all _ h1 h2, F.backs _ h1 h2, F.depth _ _ h1 h2, F.red _ h1 h2, F.fwd _ h1 h2, Option.bind_some, hl, hb, hr, hf]; have i0 : A6 (0 : Int) ([⟨1, [1, 2]⟩] : List A1).length := ⟨by decide, by decide⟩; have i1 : A6 (0 : Int) ([((2 : Int), (1 : Int))] : List (Int × Int)).length := ⟨by decide, by decide⟩
  have hi : Cs [1, 2] ([(1 : Int), (2 : Int)] : List (Int)) = some true := by rw [m_ints _ _ (by decide)]; rfl
  rw [Ad (fun _ => i0), Ad (fun _ => i0)]
  show Option.bind (Cs [1, 2] [(1 : Int), (2 : Int)]) _ = _
  rw [hi, Option.bind_some, Ad (fun _ => i1)]; have d2 : Hp [⟨1, [1, 2]⟩] 2 = 1 := rfl; have d3 : Hp [⟨1, [1, 2]⟩] 3 = 0 := rfl; rw [d2, d3]
  rfl
theorem Ya (l : List A1) (x : Int) {m : Nat} (hm : m < l.length) : Hp (l.take (m + 1)) x = Hp (l.take m) x + if (l.getD m default).Body.contains x = true then 1 else 0 := by
  unfold Hp; rw [List.take_succ_eq_append_getElem hm, List.filter_append, List.length_append, Ag _ _ _ hm]
  congr 1
  rw [List.filter_cons, List.filter_nil]
  split <;> rfl
theorem deepN_le (l : List A1) (x : Int) : Hp l x ≤ l.length := List.length_filter_le ..
end
end Go.Proofs.Ytjpacggpipflcaa

namespace Go.Proofs.Ytjpacggpipflcaa
noncomputable section
open Go Go.RowKit
set_option linter.unusedVariables false
set_option linter.unusedSimpArgs false
section
variable {S : Nat → List Nat}
end
section
variable {L : List (List Int)} (hm : Eu L = true)
include hm
theorem goes_sN {p y : Nat} (hp : p < L.length) : y ∈ sN L p ↔ Mx L p y = true := by
  rw [N2]; obtain ⟨_, _, h3⟩ := mayS_iff.1 hm
  constructor
  · intro h; obtain ⟨z, hz, rfl⟩ := List.mem_map.1 h; have := Hw (h3 p hp) hz; rw [Int.toNat_of_nonneg this.1]; exact hz
  · intro h; exact List.mem_map.2 ⟨_, h, An y⟩
theorem Nk {t h : Nat} (ht : t < L.length) : Mq L t h = true ↔ h ∈ sN L t ∧ Rc (sN L) 0 t ∧ ¬ Av (sN L) 0 h t := by
  have h1 := (mayS_iff.1 hm).1; unfold Mq; rw [Bool.and_eq_true, N7 hm (by omega) ht, goes_sN hm ht]
theorem W7 {h : Nat} : Gs L h = true ↔ ∃ t, t < L.length ∧ Mq L t h = true := by
  unfold Gs; rw [List.any_eq_true]
  constructor
  · rintro ⟨p, hp, he⟩; obtain ⟨a, b, rfl, ha, hb, hB⟩ := mem_backs.1 hp
    have : b = h := by have := beq_iff_eq.1 he; exact Int.ofNat.inj this
    subst this; exact ⟨a, ha, hB⟩
  · rintro ⟨t, ht, hB⟩; have hh := Is hm t ht h ((Nk hm ht).1 hB).1; exact ⟨((t : Int), (h : Int)), mem_backs.2 ⟨t, h, rfl, ht, hh, hB⟩, by simp⟩
theorem Xp {h x : Nat} (hx : x < L.length) : Pu L h x = true ↔ x = h ∨ (x ≠ h ∧ Rc (sN L) 0 x ∧ ∃ t, t < L.length ∧ Mq L t h = true ∧ Av (sN L) x h t) := by
  have h1 := (mayS_iff.1 hm).1; unfold Pu; rw [Bool.or_eq_true, decide_eq_true_eq, List.any_eq_true]
  constructor
  · rintro (e | ⟨p, hp, he⟩)
    · exact .inl e
    · obtain ⟨a, b, rfl, ha, hb, hB⟩ := mem_backs.1 hp; unfold inBy at he; rw [Bool.and_eq_true, Bool.and_eq_true, Bool.and_eq_true, decide_eq_true_eq] at he; obtain ⟨e1, e2, e3, e4⟩ := he
      have : b = h := by have := beq_iff_eq.1 e1; exact Int.ofNat.inj this
      subst this; refine .inr ⟨e2, (Gk hm (by omega)).1 e3, a, ha, hB, (Id hm hx ha).1 ?_⟩
      simpa using e4
  · rintro (e | ⟨e2, e3, t, ht, hB, hA⟩)
    · exact .inl e
    · have hh := Is hm t ht h ((Nk hm ht).1 hB).1; refine .inr ⟨((t : Int), (h : Int)), mem_backs.2 ⟨t, h, rfl, ht, hh, hB⟩, ?_⟩; unfold inBy; rw [Bool.and_eq_true, Bool.and_eq_true, Bool.and_eq_true, decide_eq_true_eq]; refine ⟨by simp, e2, (Gk hm (by omega)).2 e3, ?_⟩
      show (Ig L x (h : Int)).getD ((t : Int)).toNat false = true
      rw [An]; exact (Id hm hx ht).2 hA
end
theorem T7 {L : List (List Int)} {h x : Nat} (hx : x < L.length) : (Mw L h).contains (x : Int) = Pu L h x := by
  rw [Bool.eq_iff_iff, List.contains_iff_mem]; unfold Mw; rw [K2]
  constructor
  · rintro ⟨k, e, h1, h2⟩; cases Int.ofNat.inj e; exact h2
  · intro h; exact ⟨x, rfl, hx, h⟩
theorem mem_loops {L : List (List Int)} {z : A1} : z ∈ Er L ↔ ∃ h, h < L.length ∧ Gs L h = true ∧ z = ⟨((h : Nat) : Int), Mw L h⟩ := by
  unfold Er
  constructor
  · intro hz; obtain ⟨h, hh, rfl⟩ := List.mem_map.1 hz; obtain ⟨h1, h2⟩ := List.mem_filter.1 hh; exact ⟨h, List.mem_range.1 h1, h2, rfl⟩
  · rintro ⟨h, h1, h2, rfl⟩; exact List.mem_map.2 ⟨h, List.mem_filter.2 ⟨List.mem_range.2 h1, h2⟩, rfl⟩
end
end Go.Proofs.Ytjpacggpipflcaa
