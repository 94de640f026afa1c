/-
  The machine, the program's functions and the laws' arithmetic: part 5 of 6.
-/
import Derived.Test.YtjpacggpipflcaaPk4
set_option linter.unusedVariables false
set_option linter.unusedSimpArgs false
namespace Go.Proofs.Ytjpacggpipflcaa
noncomputable section
open Go Go.RowKit
set_option linter.unusedVariables false
set_option maxRecDepth 100000
set_option maxHeartbeats 2000000
def Dw (a_list : List (Int)) : (Int × List (Bool)) → Option (LR (Int × List (Bool)) (List (Bool))) :=
  fun ((i1, l2) : (Int × List (Bool))) => (bif (decide ((i1 : Int) < (a_list.length : Int))) then (Ce (A5 i1 a_list.length) (Ce (A5 (a_list.getD (i1).toNat (0 : Int)) 64) (some (.next ((Bi (i1 + (1 : Int))), (Dp 64 false l2 ((a_list.getD (i1).toNat (0 : Int))).toNat true)))))) else (some (.done l2)))
def Uv (a_list : List (Int)) : AV := (AV.list 1 Ad (0 : Int) a_list .none)
def Qx := (fun i => eB ((List.replicate 64 false).getD i false))
def Q175 (l2 : List (Bool)) : List (Nat × Own) := [(2, .arr 1 53 64 Qx), (3, .arr 1 53 64 (fun i => eB (l2.getD i false)))]
def Q173 (a_list : List (Int)) (i1 : Int) : List (Nat × AV) := [(2, (.vpt 2 64 0 0)), (3, (.vpt 3 64 0 0)), (6, (Uv a_list)), (7, (.int .i64 (a_list.length : Int))), (8, (.int .i64 i1))]
def Fc (a_list : List (Int)) : Option (List (Bool)) :=
  ((At (S := (Int × List (Bool))) (X := List (Bool)) (Dw a_list) ((0 : Int), (List.replicate 64 false))).bind (fun x6 => ((some x6))))
theorem Rs (a_list : List (Int)) (r : List (Bool)) (h : Fc a_list = some r) : Spec Try.prog 30 [(AV.list 1 Ad (0 : Int) a_list .none)] [] (.agg (Fo r)) [] := by
  refine Ap (fn := Try.f30) Try.func30 rfl rfl (by kernel_rfl) (fun Γ hn hΓ => ?_); have hq : RgQ Try.prog Γ 16 [] := ⟨hn, mix, hΓ⟩; unfold Fc at h; refine B6 [] [(2, (.vpt 2 64 0 0))] ⟨[(0, (Uv a_list)), (2, (.vpt 2 64 0 0))], [(2, .arr 1 53 64 (fun i_ => AV.eraseAll (fun n_ => B4 n_ [2]) ((fun i => (((List.replicate 64 [(.bool false)]).flatten).drop (i * 1)).take 1) i_)))], []⟩ [] hq trivial ?_; refine Af (Cb (st' := ⟨[(0, (Uv a_list)), (2, (.vpt 2 64 0 0))], [(2, .arr 1 53 64 Qx)], []⟩) (TmpsLe.refl _) (.arr (H8 (e := eB) (d := false) (z := [(.bool false)]) rfl rfl rfl) .nil)) ?_; refine B6 [] [(3, (.vpt 3 64 0 0))] ⟨[(0, (Uv a_list)), (2, (.vpt 2 64 0 0)), (3, (.vpt 3 64 0 0))], [(2, .arr 1 53 64 Qx), (3, .arr 1 53 64 (fun i_ => AV.eraseAll (fun n_ => B4 n_ [2, 3]) ((fun i => (((List.replicate 64 [(.bool false)]).flatten).drop (i * 1)).take 1) i_)))], []⟩ [] hq trivial ?_; refine Af (Cb (st' := ⟨[(0, (Uv a_list)), (2, (.vpt 2 64 0 0)), (3, (.vpt 3 64 0 0))], [(2, .arr 1 53 64 Qx), (3, .arr 1 53 64 Qx)], []⟩) (TmpsLe.refl _) (.same (.arr (H8 (e := eB) (d := false) (z := [(.bool false)]) rfl rfl rfl) .nil))) ?_; refine Ae ?_; refine Au ⟨[(2, (.vpt 2 64 0 0)), (3, (.vpt 3 64 0 0)), (6, (Uv a_list)), (7, (.int .i64 (a_list.length : Int))), (8, (.int .i64 (0 : Int)))], [(2, .arr 1 53 64 Qx), (3, .arr 1 53 64 Qx)], []⟩ hq ?_; refine Ah ?_; refine Af (st' := (fun ((i1, l2) : (Int × List (Bool))) => (⟨(Q173 a_list i1), (Q175 l2), []⟩ : St)) ((0 : Int), (List.replicate 64 false))) (Le.refl _ _) ?_; obtain ⟨x6, hx6, h⟩ := bind_some h; refine Bb (fun ((i1, l2) : (Int × List (Bool))) => (⟨(Q173 a_list i1), (Q175 l2), []⟩ : St)) _ (fun (l3 : List (Bool)) (e : Exit) (st : St) => e = (.exit 0) ∧ Le Γ st (⟨[(2, (.vpt 2 64 0 0)), (3, (.vpt 3 64 0 0))], [(2, .arr 1 53 64 Qx), (3, .arr 1 53 64 (fun i => eB (l3.getD i false)))], []⟩ : St)) ?_ hx6 ?_
  · rintro ⟨i1, l2⟩ y h; unfold Dw at h; refine Au ⟨[(2, (.vpt 2 64 0 0)), (3, (.vpt 3 64 0 0)), (6, (Uv a_list)), (7, (.int .i64 (a_list.length : Int))), (8, (.int .i64 i1)), (9, (.bool (decide ((i1 : Int) < (a_list.length : Int)))))], (Q175 l2), []⟩ hq ?_; refine Ae ?_; refine Ak (decide ((i1 : Int) < (a_list.length : Int))) (by kernel_rfl) (fun hb => ?_) (fun hb => ?_)
    · replace h := Ao hb h; clear hb; refine Ai ?_; refine Aa ?_; refine Ae ?_; refine Ah ?_; obtain ⟨hc4, h⟩ := Ab h; refine B6 [] [] ⟨[(2, (.vpt 2 64 0 0)), (3, (.vpt 3 64 0 0)), (5, (.int .i64 (a_list.getD (i1).toNat (0 : Int)))), (6, (Uv a_list)), (7, (.int .i64 (a_list.length : Int))), (8, (.int .i64 i1))], (Q175 l2), []⟩ [(A5 i1 a_list.length)] hq ⟨hc4, trivial⟩ ?_; obtain ⟨hc5, h⟩ := Ab h; refine rg [] [] ⟨(Q173 a_list i1), [(2, .arr 1 53 64 Qx), (3, .arr 1 53 64 (fun i_ => AV.eraseAll (fun n_ => B4 n_ [2, 3]) ((E7 (fun i => eB (l2.getD i false)) ((a_list.getD (i1).toNat (0 : Int))).toNat 0 [(.bool true)]) i_)))], []⟩ [(A5 (a_list.getD (i1).toNat (0 : Int)) 64), (64 = 64)] hq ⟨hc5, rfl, trivial⟩ ?_; refine Am ?_; refine Aa ?_; refine Af (Cb (st' := ⟨(Q173 a_list i1), [(2, .arr 1 53 64 Qx), (3, .arr 1 53 64 (fun i => eB ((Dp 64 false l2 ((a_list.getD (i1).toNat (0 : Int))).toNat true).getD i false)))], []⟩) (TmpsLe.refl _) (.same (.arr (Bd rfl (fun k_ hk_ => (congrArg (AV.eraseAll (fun n_ => B4 n_ [2, 3])) ((Fb (fun _ _ => rfl) (D1 hc5) rfl) k_ hk_)).trans rfl)) .nil))) ?_; refine Ll ⟨[(2, (.vpt 2 64 0 0)), (3, (.vpt 3 64 0 0)), (6, (Uv a_list)), (7, (.int .i64 (a_list.length : Int))), (8, (.int .i64 (Bi (i1 + (1 : Int)))))], [(2, .arr 1 53 64 Qx), (3, .arr 1 53 64 (fun i => eB ((Dp 64 false l2 ((a_list.getD (i1).toNat (0 : Int))).toNat true).getD i false)))], []⟩ hq ?_; obtain rfl := OI h; exact ⟨rfl, Le.refl _ _⟩
    · replace h := Aw hb h; clear hb; refine Bc ?_; refine A1 ?_; obtain rfl := OI h; exact ⟨(by intro hh; cases hh), rfl, Fx [2, 3] [2, 3] hq⟩
  · clear hx6; rintro e st' ⟨rfl, hl7⟩; refine Ay ?_; refine Aa ?_; refine Af hl7 ?_; refine B6 [] [] ⟨[(2, (.vpt 2 64 0 0))], [(2, .arr 1 53 64 (fun i_ => AV.eraseAll (fun n_ => B4 n_ [2]) ((fun i_ => (((Fo x6)).drop (i_ * 1)).take 1) i_)))], []⟩ [(64 = 64), (64 = 64)] hq ⟨rfl, rfl, trivial⟩ ?_; refine Af (Cb (st' := ⟨[(2, (.vpt 2 64 0 0))], [(2, .arr 1 53 64 (fun i => eB (x6.getD i false)))], []⟩) (TmpsLe.refl _) (.arr (Bd rfl (fun k_ hk_ => (congrArg (AV.eraseAll (fun n_ => B4 n_ [2])) ((J6 (n := 64) (sz := 1) (f := (fun i => eB (x6.getD i false))) (fun _ _ => rfl)) k_ hk_)).trans rfl)) .nil)) ?_; refine Ar ?_; obtain rfl := OI h; exact ⟨.inl rfl, [], by kernel_rfl⟩
def Y8 : AV := (AV.list 1 Ad (0 : Int) ([] : List Int) .exact)
def Q177 := (⟨[(2, (.vsl 36002 ([] : List Int).length))], [(36002, .arr 1 3 (([] : List Int).length) (fun i => Ad (([] : List Int).getD i (0 : Int))))], []⟩ : St)
def Cx (a_s : List (Int)) : Option (List (Int)) :=
  (Ce (a_s.length ≤ room) (some a_s))
theorem Ij (a_s : List (Int)) (r : List (Int)) (h : Cx a_s = some r) : Spec Try.prog 42 [(AV.list 1 Ad (0 : Int) a_s .none)] [] (.vsl 20000 r.length) [(20000, .arr 1 3 r.length (fun i => Ad (r.getD i (0 : Int))))] := by
  refine Ap (fn := Try.f42) Try.func42 rfl rfl (by kernel_rfl) (fun Γ hn hΓ => ?_); have hq : RgQ Try.prog Γ 8 [] := ⟨hn, mix, hΓ⟩; unfold Cx at h; refine B6 [] [(2, Y8)] ⟨[(0, (AV.list 1 Ad (0 : Int) a_s .none))], [], []⟩ [(AVle (.slice 0 0 (fun _ => []) .exact) Y8)] hq ⟨D3, trivial⟩ ?_; refine Ae ?_; refine Au ⟨[(0, (AV.list 1 Ad (0 : Int) a_s .none)), (4, (.nilq true a_s.length))], [], []⟩ hq ?_; refine Wh true a_s.length (by kernel_rfl) (fun hb => ?_) (fun hb => ?_)
  · replace h := nil_at (some ([] : List Int)) (fun (l2 : List Int) => (Ce (l2.length ≤ room) (some l2))) h (hb rfl) rfl (fun h0 => by first | exact h0 | simpa [Ce, room] using h0); clear hb; refine B6 [] [(2, Y8)] ⟨[(2, Y8)], [], []⟩ [(AVle (.slice 0 0 (fun _ => []) .exact) Y8)] hq ⟨D3, trivial⟩ ?_; refine Af (st' := Q177) (Le.trans (le_arr (t := 2) (nm := 36002) (sz' := 1) (fun i => Ad (([] : List Int).getD i (0 : Int))) 3 rfl rfl) (Fx (st' := Q177) [2] [36002] hq)) ?_; refine Ar ?_; refine A2 ?_; obtain rfl := OI h; exact ⟨.inl rfl, [(36002, 20000)], by kernel_rfl⟩
  · clear hb; refine Ai ?_; refine Aa ?_; obtain ⟨hc1, h⟩ := Ab h; refine B6 [] [(5, Y8), (7, .vsl 7 0)] ⟨[(2, (.vsl 7 a_s.length))], [(7, .arr 1 3 a_s.length (fun i => Ad (a_s.getD i (0 : Int))))], []⟩ [(AVle (.slice 1 0 (fun i => ([] : List (List AV)).getD i []) .exact) Y8), (a_s.length ≤ room)] hq ⟨Fh rfl (fun i hi => absurd hi (Nat.not_lt_zero i)), hc1, trivial⟩ ?_; refine Ar ?_; obtain rfl := OI h; exact ⟨.inl rfl, [(7, 20000)], by kernel_rfl⟩
def B2 (a_m : List (Bool)) : (List (Int) × Int) → Option (LR (List (Int) × Int) (List (Int))) :=
  fun ((l1, i2) : (List (Int) × Int)) => (bif (decide ((i2 : Int) < (64 : Int))) then (Option.bind (α := List (Int)) (Ce (A5 i2 64) (bif (a_m.getD (i2).toNat false) then (Ce (l1.length + ([i2] : List (Int)).length ≤ room) (some ((l1 ++ ([i2] : List (Int)))))) else (some (l1)))) (fun x7 => ((some (.next (x7, (Bi (i2 + (1 : Int))))))))) else (some (.done l1)))
def P6 (i2 : Int) := ([i2] : List (Int))
def Q179 (l1 : List (Int)) : AV := (AV.list 1 Ad (0 : Int) l1 (.own 5003))
def Q178 : AV := (AV.list 1 Ad (0 : Int) ([] : List Int) .exact)
def Dl (a_m : List (Bool)) : Option (List (Int)) :=
  ((At (S := (List (Int) × Int)) (X := List (Int)) (B2 a_m) (([] : List Int), (0 : Int))).bind (fun x9 => ((some x9))))
theorem Ho (a_m : List (Bool)) (r : List (Int)) (h : Dl a_m = some r) : Spec Try.prog 46 [(.agg (Fo a_m))] [] (AV.list 1 Ad (0 : Int) r (.own 20000)) [(20000, .tok 1 3 r.length)] := by
  refine Ap (fn := Try.f46) Try.func46 rfl rfl (by kernel_rfl) (fun Γ hn hΓ => ?_); have hq : RgQ Try.prog Γ 18 [] := ⟨hn, mix, hΓ⟩; unfold Dl at h; refine B6 [] [(1, (.vpt 1 64 0 0)), (2, Q178)] ⟨[(1, (.vpt 1 64 0 0))], [(1, .arr 1 53 64 (fun i_ => AV.eraseAll (fun n_ => B4 n_ [1]) ((fun i_ => (((Fo a_m)).drop (i_ * 1)).take 1) i_)))], []⟩ [(AVle (.slice 0 0 (fun _ => []) .exact) Q178)] hq ⟨D3, trivial⟩ ?_; refine Af (Cb (st' := ⟨[(1, (.vpt 1 64 0 0))], [(1, .arr 1 53 64 (fun i => eB (a_m.getD i false)))], []⟩) (TmpsLe.refl _) (.arr (Bd rfl (fun k_ hk_ => (congrArg (AV.eraseAll (fun n_ => B4 n_ [1])) ((J6 (n := 64) (sz := 1) (f := (fun i => eB (a_m.getD i false))) (fun _ _ => rfl)) k_ hk_)).trans rfl)) .nil)) ?_; refine B6 [] [(3, Q178)] ⟨[(1, (.vpt 1 64 0 0)), (3, Q178)], [(1, .arr 1 53 64 (fun i => eB (a_m.getD i false)))], []⟩ [(AVle (.slice 0 0 (fun _ => []) .exact) Q178)] hq ⟨D3, trivial⟩ ?_; refine Ae ?_; refine B6 [] [] ⟨[(3, Q178), (6, (.agg (Fo a_m))), (7, (.int .i64 (0 : Int)))], [], []⟩ [(64 = 64)] hq ⟨rfl, trivial⟩ ?_; refine Ah ?_; refine Af (st' := (fun ((l1, i2) : (List (Int) × Int)) => (⟨[(3, (Q179 l1)), (6, (.agg (Fo a_m))), (7, (.int .i64 i2))], [(5003, .tok 1 3 l1.length)], []⟩ : St)) (([] : List Int), (0 : Int))) (Le.trans (Pg (t := 3) (nm := 5003) (sz' := 1) (fun i => Ad (([] : List Int).getD i (0 : Int))) 3 rfl rfl (.inl ⟨rfl, rfl⟩) (fun h_ => absurd h_ (by decide))) (Fx (st' := ⟨[(3, (AV.list 1 Ad (0 : Int) ([] : List Int) (.own 5003))), (6, (.agg (Fo a_m))), (7, (.int .i64 (0 : Int)))], [(5003, .tok 1 3 (([] : List Int).length))], []⟩) [3, 6, 7] [5003] hq)) ?_; obtain ⟨x9, hx9, h⟩ := bind_some h; refine Bb (fun ((l1, i2) : (List (Int) × Int)) => (⟨[(3, (Q179 l1)), (6, (.agg (Fo a_m))), (7, (.int .i64 i2))], [(5003, .tok 1 3 l1.length)], []⟩ : St)) _ (fun (l3 : List (Int)) (e : Exit) (st : St) => e = (.exit 0) ∧ Le Γ st (⟨[(3, (AV.list 1 Ad (0 : Int) l3 (.own 5003)))], [(5003, .tok 1 3 l3.length)], []⟩ : St)) ?_ hx9 ?_
  · rintro ⟨l1, i2⟩ y h; unfold B2 at h; refine Au ⟨[(3, (Q179 l1)), (6, (.agg (Fo a_m))), (7, (.int .i64 i2)), (8, (.bool (decide ((i2 : Int) < (64 : Int)))))], [(5003, .tok 1 3 l1.length)], []⟩ hq ?_; refine Ae ?_; refine Ak (decide ((i2 : Int) < (64 : Int))) (by kernel_rfl) (fun hb => ?_) (fun hb => ?_)
    · replace h := Ao hb h; clear hb; refine Ai ?_; refine Aa ?_; refine Ae ?_; obtain ⟨x7, hx7, h⟩ := bind_some h; refine Ey (fun (l4 : List (Int)) (e : Exit) (st : St) => e = .normal ∧ Le Γ st (⟨[(3, (AV.list 1 Ad (0 : Int) l4 (.own 5003))), (6, (.agg (Fo a_m))), (7, (.int .i64 i2))], [(5003, .tok 1 3 l4.length)], []⟩ : St)) hx7 ?_ ?_
      · clear h hx7; intro y h; refine Ah ?_; obtain ⟨hc5, h⟩ := Ab h; refine B6 [] [(10, (.bool (a_m.getD (i2).toNat false)))] ⟨[(3, (Q179 l1)), (4, (.int .i64 i2)), (5, (.bool (a_m.getD (i2).toNat false))), (6, (.agg (Fo a_m))), (7, (.int .i64 i2))], [(5003, .tok 1 3 l1.length)], []⟩ [(A5 i2 64), (AVle ((Fo a_m).getD (i2).toNat .any) (.bool (a_m.getD (i2).toNat false)))] hq ⟨hc5, (flat_at (n := 64) (f := fun i => eB (a_m.getD i false)) rfl (fun _ _ => rfl) (D1 hc5) rfl), trivial⟩ ?_; refine Au ⟨[(3, (Q179 l1)), (4, (.int .i64 i2)), (6, (.agg (Fo a_m))), (7, (.int .i64 i2)), (11, (.bool (a_m.getD (i2).toNat false)))], [(5003, .tok 1 3 l1.length)], []⟩ hq ?_; refine Ak (a_m.getD (i2).toNat false) (by kernel_rfl) (fun hb => ?_) (fun hb => ?_)
        · replace h := Ao hb h; clear hb; obtain ⟨hc6, h⟩ := Ab h; refine rg [] [(14, (AV.list 1 Ad (0 : Int) (P6 i2) .exact)), (15, (AV.list 1 Ad (0 : Int) (l1 ++ (P6 i2)) (.own 5003)))] ⟨[(3, (AV.list 1 Ad (0 : Int) (l1 ++ (P6 i2)) (.own 5003))), (6, (.agg (Fo a_m))), (7, (.int .i64 i2))], [(5003, .tok 1 3 ((l1 ++ (P6 i2)).length))], []⟩ [(AVle (.slice 1 1 (fun i => ([[(.int .i64 i2)]] : List (List AV)).getD i []) .exact) (AV.list 1 Ad (0 : Int) (P6 i2) .exact)), (l1.length = l1.length), (l1.length + (P6 i2).length ≤ room), (AVle (.slice 1 (l1.length + (P6 i2).length) (E0 l1.length (fun i => Ad (l1.getD i (0 : Int))) (fun i => Ad ((P6 i2).getD i (0 : Int)))) (.own 5003)) (AV.list 1 Ad (0 : Int) (l1 ++ (P6 i2)) (.own 5003))), (l1.length + (P6 i2).length = (l1 ++ (P6 i2)).length)] hq ⟨(Fh rfl (fun i hi => E2 (e := Ad) (d := (0 : Int)) (P6 i2) i hi)), rfl, hc6, Nn, (D8 _ _), trivial⟩ ?_; refine Am ?_; obtain rfl := OI h; exact ⟨rfl, Le.refl _ _⟩
        · replace h := Aw hb h; clear hb; refine Ai ?_; refine Am ?_; obtain rfl := OI h; exact ⟨rfl, Fx [3, 6, 7] [5003] hq⟩
      · clear hx7; rintro e st' ⟨rfl, hl8⟩; refine Aa ?_; refine Af hl8 ?_; refine Ll ⟨[(3, (AV.list 1 Ad (0 : Int) x7 (.own 5003))), (6, (.agg (Fo a_m))), (7, (.int .i64 (Bi (i2 + (1 : Int)))))], [(5003, .tok 1 3 x7.length)], []⟩ hq ?_; obtain rfl := OI h; exact ⟨rfl, Le.refl _ _⟩
    · replace h := Aw hb h; clear hb; refine Bc ?_; refine A1 ?_; obtain rfl := OI h; exact ⟨(by intro hh; cases hh), rfl, Fx [3] [5003] hq⟩
  · clear hx9; rintro e st' ⟨rfl, hl10⟩; refine Ay ?_; refine Aa ?_; refine Af hl10 ?_; refine Au ⟨[(2, (AV.list 1 Ad (0 : Int) x9 (.own 5003)))], [(5003, .tok 1 3 x9.length)], []⟩ hq ?_; refine Ar ?_; obtain rfl := OI h; exact ⟨.inl rfl, [(5003, 20000)], by kernel_rfl⟩
def Dk (a_pred : List (List (Int))) (a_reached : List (Bool)) : (List (Bool) × List (Int)) → Option (LR (List (Bool) × List (Int)) (List (Int))) :=
  fun (s_ : (List (Bool) × List (Int))) => match s_ with | (l1, l2) => (bif (((l2.length : Int) : Int) == (0 : Int)) then ((Dl l1).bind fun x17 => (some (.done x17))) else (Ce (A5 (Bi ((l2.length : Int) - (1 : Int))) l2.length) (Ce (0 ≤ (Bi ((l2.length : Int) - (1 : Int))) ∧ 0 + ((Bi ((l2.length : Int) - (1 : Int)))).toNat ≤ l2.length) (Option.bind (α := (List (Bool) × List (Int))) (Ce (A5 (l2.getD ((Bi ((l2.length : Int) - (1 : Int)))).toNat (0 : Int)) 64) (Ce (((a_reached.getD ((l2.getD ((Bi ((l2.length : Int) - (1 : Int)))).toNat (0 : Int))).toNat false) == true) = true → (A5 (l2.getD ((Bi ((l2.length : Int) - (1 : Int)))).toNat (0 : Int)) 64)) (bif (bif (a_reached.getD ((l2.getD ((Bi ((l2.length : Int) - (1 : Int)))).toNat (0 : Int))).toNat false) then (!(l1.getD ((l2.getD ((Bi ((l2.length : Int) - (1 : Int)))).toNat (0 : Int))).toNat false)) else false) then (Ce (A5 (l2.getD ((Bi ((l2.length : Int) - (1 : Int)))).toNat (0 : Int)) 64) (Ce (A5 (l2.getD ((Bi ((l2.length : Int) - (1 : Int)))).toNat (0 : Int)) a_pred.length) (Ce ((l2.take ((Bi ((l2.length : Int) - (1 : Int)))).toNat).length + (a_pred.getD ((l2.getD ((Bi ((l2.length : Int) - (1 : Int)))).toNat (0 : Int))).toNat []).length ≤ room) (some (((Dp 64 false l1 ((l2.getD ((Bi ((l2.length : Int) - (1 : Int)))).toNat (0 : Int))).toNat true), ((l2.take ((Bi ((l2.length : Int) - (1 : Int)))).toNat) ++ (a_pred.getD ((l2.getD ((Bi ((l2.length : Int) - (1 : Int)))).toNat (0 : Int))).toNat [])))))))) else (some ((l1, (l2.take ((Bi ((l2.length : Int) - (1 : Int)))).toNat))))))) (fun x27 => (match x27 with | (l20, l21) => (some (.next (l20, l21)))))))))
def Wu := (fun n_ => B4 n_ [5, 9, 15])
def Q191 (l1 : List (Bool)) := (fun i => eB (l1.getD i false))
def Ft (a_pred : List (List (Int))) : AV := (AV.list 1 eLI64 [] a_pred .none)
def Kv (l2 : List (Int)) := (l2.getD ((Bi ((l2.length : Int) - (1 : Int)))).toNat (0 : Int))
def S6 (a_pred : List (List (Int))) (l2 : List (Int)) := (a_pred.getD ((Kv l2)).toNat [])
def K3 (x4 : List (Int)) := (x4.getD ((Bi ((x4.length : Int) - (1 : Int)))).toNat (0 : Int))
def Tc (a_pred : List (List (Int))) (x4 : List (Int)) := (a_pred.getD ((K3 x4)).toNat [])
def Q192 (x4 : List (Int)) := (fun i => Ad (x4.getD i (0 : Int)))
def G0 (a_reached : List (Bool)) := (fun i => eB (a_reached.getD i false))
def P5 (a_reached : List (Bool)) (l2 : List (Int)) := (a_reached.getD ((Kv l2)).toNat false)
def Qb (a_reached : List (Bool)) (x4 : List (Int)) := (a_reached.getD ((K3 x4)).toNat false)
def Aac (a_begins : List (Int)) : AV := (AV.list 1 Ad (0 : Int) a_begins .none)
def Q186 (a_head : Int) := (Dp 64 false (List.replicate 64 false) (a_head).toNat true)
def Aah (a_head : Int) := (fun i => eB ((Q186 a_head).getD i false))
def Jm (l2 : List (Int)) := (l2.take ((Bi ((l2.length : Int) - (1 : Int)))).toNat)
def Q201 (l2 : List (Int)) := (fun i => Ad ((Jm l2).getD i (0 : Int)))
def Jn (x4 : List (Int)) := (x4.take ((Bi ((x4.length : Int) - (1 : Int)))).toNat)
def Q202 (x4 : List (Int)) := (fun i => Ad ((Jn x4).getD i (0 : Int)))
def Zu (l2 : List (Int)) := (0 + ((Bi ((l2.length : Int) - (1 : Int)))).toNat)
def Yz (x4 : List (Int)) := (0 + ((Bi ((x4.length : Int) - (1 : Int)))).toNat)
def Q200 (l1 : List (Bool)) (l2 : List (Int)) := (fun i => eB ((Dp 64 false l1 ((Kv l2)).toNat true).getD i false))
def Q199 (a_head : Int) (x4 : List (Int)) := (fun i => eB ((Dp 64 false (Q186 a_head) ((K3 x4)).toNat true).getD i false))
def Q194 (a_reached : List (Bool)) (l1 : List (Bool)) (l2 : List (Int)) : List (Nat × Own) := [(5, .arr 1 53 64 (G0 a_reached)), (9, .arr 1 53 64 (Q191 l1)), (15, .arr 1 3 l2.length (fun i => Ad (l2.getD i (0 : Int))))]
def Q193 (a_reached : List (Bool)) (a_head : Int) (x4 : List (Int)) : List (Nat × Own) := [(5, .arr 1 53 64 (G0 a_reached)), (9, .arr 1 53 64 (Aah a_head)), (15, .arr 1 3 x4.length (Q192 x4))]
def Hn (a_pred : List (List (Int))) (a_reached : List (Bool)) (a_head : Int) (a_begins : List (Int)) : Option (List (Int)) :=
  ((J9 (S := (List (Bool) × List (Int))) (X := List (Int)) (Ce (A5 a_head 64) ((Cx a_begins).bind fun x4 => (bif (((x4.length : Int) : Int) == (0 : Int)) then ((Dl (Dp 64 false (List.replicate 64 false) (a_head).toNat true)).bind fun x5 => (some (.done x5))) else (Ce (A5 (Bi ((x4.length : Int) - (1 : Int))) x4.length) (Ce (0 ≤ (Bi ((x4.length : Int) - (1 : Int))) ∧ 0 + ((Bi ((x4.length : Int) - (1 : Int)))).toNat ≤ x4.length) (Option.bind (α := (List (Bool) × List (Int))) (Ce (A5 (x4.getD ((Bi ((x4.length : Int) - (1 : Int)))).toNat (0 : Int)) 64) (Ce (((a_reached.getD ((x4.getD ((Bi ((x4.length : Int) - (1 : Int)))).toNat (0 : Int))).toNat false) == true) = true → (A5 (x4.getD ((Bi ((x4.length : Int) - (1 : Int)))).toNat (0 : Int)) 64)) (bif (bif (a_reached.getD ((x4.getD ((Bi ((x4.length : Int) - (1 : Int)))).toNat (0 : Int))).toNat false) then (!((Dp 64 false (List.replicate 64 false) (a_head).toNat true).getD ((x4.getD ((Bi ((x4.length : Int) - (1 : Int)))).toNat (0 : Int))).toNat false)) else false) then (Ce (A5 (x4.getD ((Bi ((x4.length : Int) - (1 : Int)))).toNat (0 : Int)) 64) (Ce (A5 (x4.getD ((Bi ((x4.length : Int) - (1 : Int)))).toNat (0 : Int)) a_pred.length) (Ce ((x4.take ((Bi ((x4.length : Int) - (1 : Int)))).toNat).length + (a_pred.getD ((x4.getD ((Bi ((x4.length : Int) - (1 : Int)))).toNat (0 : Int))).toNat []).length ≤ room) (some (((Dp 64 false (Dp 64 false (List.replicate 64 false) (a_head).toNat true) ((x4.getD ((Bi ((x4.length : Int) - (1 : Int)))).toNat (0 : Int))).toNat true), ((x4.take ((Bi ((x4.length : Int) - (1 : Int)))).toNat) ++ (a_pred.getD ((x4.getD ((Bi ((x4.length : Int) - (1 : Int)))).toNat (0 : Int))).toNat [])))))))) else (some (((Dp 64 false (List.replicate 64 false) (a_head).toNat true), (x4.take ((Bi ((x4.length : Int) - (1 : Int)))).toNat))))))) (fun x15 => (match x15 with | (l8, l9) => (some (.next (l8, l9))))))))))) (Dk a_pred a_reached)).bind (fun x29 => ((some x29))))
theorem Vk (a_pred : List (List (Int))) (a_reached : List (Bool)) (a_head : Int) (a_begins : List (Int)) (r : List (Int)) (h : Hn a_pred a_reached a_head a_begins = some r) : Spec Try.prog 31 [(AV.list 1 eLI64 [] a_pred .none), (.agg (Fo a_reached)), (.int .i64 a_head), (AV.list 1 Ad (0 : Int) a_begins .none)] [] (AV.list 1 Ad (0 : Int) r (.own 20000)) [(20000, .tok 1 3 r.length)] := by
  refine Ap (fn := Try.f31) Try.func31 rfl rfl (by kernel_rfl) (fun Γ hn hΓ => ?_); have hq : RgQ Try.prog Γ 49 [] := ⟨hn, mix, hΓ⟩; unfold Hn at h; refine B6 [] [(5, (.vpt 5 64 0 0)), (8, (AV.list 1 Ad (0 : Int) ([] : List Int) .exact))] ⟨[(0, (Ft a_pred)), (2, (.int .i64 a_head)), (3, (Aac a_begins)), (5, (.vpt 5 64 0 0))], [(5, .arr 1 53 64 (fun i_ => AV.eraseAll (fun n_ => B4 n_ [5]) ((fun i_ => (((Fo a_reached)).drop (i_ * 1)).take 1) i_)))], []⟩ [(AVle (.slice 0 0 (fun _ => []) .exact) (AV.list 1 Ad (0 : Int) ([] : List Int) .exact))] hq ⟨D3, trivial⟩ ?_; refine Af (Cb (st' := ⟨[(0, (Ft a_pred)), (2, (.int .i64 a_head)), (3, (Aac a_begins)), (5, (.vpt 5 64 0 0))], [(5, .arr 1 53 64 (G0 a_reached))], []⟩) (TmpsLe.refl _) (.arr (Bd rfl (fun k_ hk_ => (congrArg (AV.eraseAll (fun n_ => B4 n_ [5])) ((J6 (n := 64) (sz := 1) (f := (G0 a_reached)) (fun _ _ => rfl)) k_ hk_)).trans rfl)) .nil)) ?_; obtain ⟨x29, hx29, h⟩ := bind_some h; refine Pi (S := (List (Bool) × List (Int))) (X := List (Int)) (fun (s_ : (List (Bool) × List (Int))) => match s_ with | (l1, l2) => 0) (fun (s_ : (List (Bool) × List (Int))) => match s_ with | (l1, l2) => (⟨[(0, (Ft a_pred)), (5, (.vpt 5 64 0 0)), (9, (.vpt 9 64 0 0)), (10, (.vsl 15 l2.length))], (Q194 a_reached l1 l2), []⟩ : St)) _ _ (fun (r_ : List (Int)) (e : Exit) (st : St) => e = .ret ∧ Mt Try.prog Try.f31.results.toList [] (AV.list 1 Ad (0 : Int) r_ (.own 20000)) [(20000, .tok 1 3 r_.length)] e st) ?_ ?_ hx29 ?_
  · clear h hx29; intro y h; refine B6 [] [(9, (.vpt 9 64 0 0))] ⟨[(0, (Ft a_pred)), (2, (.int .i64 a_head)), (3, (Aac a_begins)), (5, (.vpt 5 64 0 0)), (9, (.vpt 9 64 0 0))], [(5, .arr 1 53 64 (G0 a_reached)), (9, .arr 1 53 64 (fun i_ => AV.eraseAll (fun n_ => B4 n_ [5, 9]) ((fun i => (((List.replicate 64 [(.bool false)]).flatten).drop (i * 1)).take 1) i_)))], []⟩ [] hq trivial ?_; refine Af (Cb (st' := ⟨[(0, (Ft a_pred)), (2, (.int .i64 a_head)), (3, (Aac a_begins)), (5, (.vpt 5 64 0 0)), (9, (.vpt 9 64 0 0))], [(5, .arr 1 53 64 (G0 a_reached)), (9, .arr 1 53 64 (fun i => eB ((List.replicate 64 false).getD i false)))], []⟩) (TmpsLe.refl _) (.same (.arr (H8 (e := eB) (d := false) (z := [(.bool false)]) rfl rfl rfl) .nil))) ?_; obtain ⟨hc3, h⟩ := Ab h; refine B6 [] [] ⟨[(0, (Ft a_pred)), (3, (Aac a_begins)), (5, (.vpt 5 64 0 0)), (9, (.vpt 9 64 0 0))], [(5, .arr 1 53 64 (G0 a_reached)), (9, .arr 1 53 64 (fun i_ => AV.eraseAll (fun n_ => B4 n_ [5, 9]) ((E7 (fun i => eB ((List.replicate 64 false).getD i false)) (a_head).toNat 0 [(.bool true)]) i_)))], []⟩ [(A5 a_head 64), (64 = 64)] hq ⟨hc3, rfl, trivial⟩ ?_; refine Af (Cb (st' := ⟨[(0, (Ft a_pred)), (3, (Aac a_begins)), (5, (.vpt 5 64 0 0)), (9, (.vpt 9 64 0 0))], [(5, .arr 1 53 64 (G0 a_reached)), (9, .arr 1 53 64 (Aah a_head))], []⟩) (TmpsLe.refl _) (.same (.arr (Bd rfl (fun k_ hk_ => (congrArg (AV.eraseAll (fun n_ => B4 n_ [5, 9])) ((Fb (fun _ _ => rfl) (D1 hc3) rfl) k_ hk_)).trans rfl)) .nil))) ?_; obtain ⟨x4, hx4, h⟩ := bind_some h; refine B6 [⟨[], [(20000, 15)], (.vsl 20000 x4.length), [(20000, .arr 1 3 x4.length (Q192 x4))], []⟩] [] ⟨[(0, (Ft a_pred)), (5, (.vpt 5 64 0 0)), (9, (.vpt 9 64 0 0)), (10, (.vsl 15 x4.length))], (Q193 a_reached a_head x4), []⟩ [(Spec Try.prog 42 [(Aac a_begins)] [] (.vsl 20000 x4.length) [(20000, .arr 1 3 x4.length (Q192 x4))])] hq ⟨(Ij a_begins x4 hx4), trivial⟩ ?_; refine Ae ?_; refine Pd ?_; refine Aa ?_; refine Ae ?_; refine Au ⟨[(0, (Ft a_pred)), (5, (.vpt 5 64 0 0)), (9, (.vpt 9 64 0 0)), (10, (.vsl 15 x4.length)), (18, (.bool (((x4.length : Int) : Int) == (0 : Int))))], (Q193 a_reached a_head x4), []⟩ hq ?_; refine Ak (((x4.length : Int) : Int) == (0 : Int)) (by kernel_rfl) (fun hb => ?_) (fun hb => ?_)
    · replace h := Ao hb h; clear hb; obtain ⟨x5, hx5, h⟩ := bind_some h; refine B6 [⟨[], [(20000, 20)], (AV.list 1 Ad (0 : Int) x5 (.own 20000)), [(20000, .tok 1 3 x5.length)], []⟩] [] ⟨[(8, (AV.list 1 Ad (0 : Int) x5 (.own 20)))], [(20, .tok 1 3 x5.length)], []⟩ [(64 = 64), (Spec Try.prog 46 [(.agg (Fo (Q186 a_head)))] [] (AV.list 1 Ad (0 : Int) x5 (.own 20000)) [(20000, .tok 1 3 x5.length)])] hq ⟨rfl, (Ho (Q186 a_head) x5 hx5), trivial⟩ ?_; refine Ar ?_; refine A2 ?_; obtain rfl := OI h; exact ⟨(by intro l hh; cases hh), rfl, ⟨.inl rfl, [(20, 20000)], by kernel_rfl⟩⟩
    · replace h := Aw hb h; clear hb; refine Ai ?_; refine Aa ?_; obtain ⟨hc6, h⟩ := Ab h; refine B6 [] [] ⟨[(0, (Ft a_pred)), (5, (.vpt 5 64 0 0)), (9, (.vpt 9 64 0 0)), (10, (.vsl 15 x4.length)), (11, (.int .i64 (K3 x4)))], (Q193 a_reached a_head x4), []⟩ [(A5 (Bi ((x4.length : Int) - (1 : Int))) x4.length), (x4.length = x4.length)] hq ⟨hc6, rfl, trivial⟩ ?_; obtain ⟨hc7, h⟩ := Ab h; refine B6 [] [] ⟨[(0, (Ft a_pred)), (5, (.vpt 5 64 0 0)), (9, (.vpt 9 64 0 0)), (10, (.vsub 15 x4.length 0 (Yz x4))), (11, (.int .i64 (K3 x4)))], (Q193 a_reached a_head x4), []⟩ [(0 ≤ (Bi ((x4.length : Int) - (1 : Int))) ∧ 0 + ((Bi ((x4.length : Int) - (1 : Int)))).toNat ≤ x4.length)] hq ⟨hc7, trivial⟩ ?_; refine Af (Le.trans (Le.trans (Ok (t := 10) (r := 15) (k := (Yz x4)) rfl rfl hc7.2 (by kernel_rfl) (.arr (fun _ => by kernel_rfl) (.arr (fun _ => by kernel_rfl) (.arr (fun _ => by kernel_rfl) .nil))) (by rw [hΓ]; rfl)) (Bz (st' := ⟨[(0, (Ft a_pred)), (5, (.vpt 5 64 0 0)), (9, (.vpt 9 64 0 0)), (10, (.vsl 15 (Yz x4))), (11, (.int .i64 (K3 x4)))], [(5, .arr 1 53 64 (G0 a_reached)), (9, .arr 1 53 64 (Aah a_head)), (15, .arr 1 3 (Yz x4) (Q192 x4))], []⟩) (by kernel_rfl))) (Le.trans (Cb (st' := ⟨[(0, (Ft a_pred)), (5, (.vpt 5 64 0 0)), (9, (.vpt 9 64 0 0)), (10, (.vsl 15 (Yz x4))), (11, (.int .i64 (K3 x4)))], [(5, .arr 1 53 64 (G0 a_reached)), (9, .arr 1 53 64 (Aah a_head)), (15, .arr 1 3 (Yz x4) (Q202 x4))], []⟩) (TmpsLe.refl _) (.same (.same (.arr (Qm (e := Ad) (d := (0 : Int))) .nil)))) (Bz (congrArg (fun k_ : Nat => (⟨[(0, (Ft a_pred)), (5, (.vpt 5 64 0 0)), (9, (.vpt 9 64 0 0)), (10, (.vsl 15 k_)), (11, (.int .i64 (K3 x4)))], [(5, .arr 1 53 64 (G0 a_reached)), (9, .arr 1 53 64 (Aah a_head)), (15, .arr 1 3 k_ (Q202 x4))], []⟩ : St)) (show (Yz x4) = (Jn x4).length from Nz hc7.2))))) ?_; refine Ae ?_; obtain ⟨x15, hx15, h⟩ := bind_some h; refine Ey (fun ((l8, l9) : (List (Bool) × List (Int))) (e : Exit) (st : St) => e = .normal ∧ Le Γ st (⟨[(0, (Ft a_pred)), (5, (.vpt 5 64 0 0)), (9, (.vpt 9 64 0 0)), (10, (.vsl 15 l9.length))], [(5, .arr 1 53 64 (G0 a_reached)), (9, .arr 1 53 64 (fun i => eB (l8.getD i false))), (15, .arr 1 3 l9.length (fun i => Ad (l9.getD i (0 : Int))))], []⟩ : St)) hx15 ?_ ?_
      · clear h hx15; intro y h; obtain ⟨hc10, h⟩ := Ab h; obtain ⟨hc11, h⟩ := Ab h; refine B6 [] [] ⟨[(0, (Ft a_pred)), (5, (.vpt 5 64 0 0)), (9, (.vpt 9 64 0 0)), (10, (.vsl 15 (Jn x4).length)), (11, (.int .i64 (K3 x4))), (40, (.bool (bif (Qb a_reached x4) then (!((Q186 a_head).getD ((K3 x4)).toNat false)) else false)))], [(5, .arr 1 53 64 (G0 a_reached)), (9, .arr 1 53 64 (Aah a_head)), (15, .arr 1 3 ((Jn x4).length) (Q202 x4))], []⟩ [(A5 (K3 x4) 64), (64 = 64), (((Qb a_reached x4) == true) = true → ((Qb a_reached x4) == true) = true), (((Qb a_reached x4) == true) = true → (A5 (K3 x4) 64)), (((Qb a_reached x4) == true) = true → ((Qb a_reached x4) == true) = true), (((Qb a_reached x4) == true) = true → (64 = 64)), (((Qb a_reached x4) == true) = true → ((Qb a_reached x4) == true) = true), ((Qb a_reached x4) = true → ((Qb a_reached x4) == true) = true)] hq ⟨hc10, rfl, (fun hg => hg), (fun hg => (hc11 hg)), (fun hg => hg), (fun hg => rfl), (fun hg => hg), gT, trivial⟩ ?_; refine Ak (bif (Qb a_reached x4) then (!((Q186 a_head).getD ((K3 x4)).toNat false)) else false) (by kernel_rfl) (fun hb => ?_) (fun hb => ?_)
        · replace h := Ao hb h; clear hb; obtain ⟨hc12, h⟩ := Ab h; refine B6 [] [] ⟨[(0, (Ft a_pred)), (5, (.vpt 5 64 0 0)), (9, (.vpt 9 64 0 0)), (10, (.vsl 15 (Jn x4).length)), (11, (.int .i64 (K3 x4)))], [(5, .arr 1 53 64 (G0 a_reached)), (9, .arr 1 53 64 (fun i_ => AV.eraseAll Wu ((E7 (Aah a_head) ((K3 x4)).toNat 0 [(.bool true)]) i_))), (15, .arr 1 3 ((Jn x4).length) (Q202 x4))], []⟩ [(A5 (K3 x4) 64), (64 = 64)] hq ⟨hc12, rfl, trivial⟩ ?_; refine Af (Cb (st' := ⟨[(0, (Ft a_pred)), (5, (.vpt 5 64 0 0)), (9, (.vpt 9 64 0 0)), (10, (.vsl 15 (Jn x4).length)), (11, (.int .i64 (K3 x4)))], [(5, .arr 1 53 64 (G0 a_reached)), (9, .arr 1 53 64 (Q199 a_head x4)), (15, .arr 1 3 ((Jn x4).length) (Q202 x4))], []⟩) (TmpsLe.refl _) (.same (.arr (Bd rfl (fun k_ hk_ => (congrArg (AV.eraseAll Wu) ((Fb (fun _ _ => rfl) (D1 hc12) rfl) k_ hk_)).trans rfl)) (.same .nil)))) ?_; obtain ⟨hc13, h⟩ := Ab h; obtain ⟨hc14, h⟩ := Ab h; refine rg [] [] ⟨[(0, (Ft a_pred)), (5, (.vpt 5 64 0 0)), (9, (.vpt 9 64 0 0)), (10, (.vsl 15 ((Jn x4).length + (Tc a_pred x4).length)))], [(5, .arr 1 53 64 (G0 a_reached)), (9, .arr 1 53 64 (Q199 a_head x4)), (15, .arr 1 3 ((Jn x4).length + (Tc a_pred x4).length) (fun i_ => AV.eraseAll Wu ((E0 ((Jn x4).length) (Q202 x4) (fun i => Ad ((Tc a_pred x4).getD i (0 : Int)))) i_)))], []⟩ [(A5 (K3 x4) a_pred.length), ((Jn x4).length = (Jn x4).length), ((Jn x4).length + (Tc a_pred x4).length ≤ room)] hq ⟨hc13, rfl, hc14, trivial⟩ ?_; obtain rfl := OI h; exact ⟨rfl, Le.trans (Le.trans (Cb (st' := ⟨[(0, (Ft a_pred)), (5, (.vpt 5 64 0 0)), (9, (.vpt 9 64 0 0)), (10, (.vsl 15 ((Jn x4).length + (Tc a_pred x4).length)))], [(5, .arr 1 53 64 (G0 a_reached)), (9, .arr 1 53 64 (Q199 a_head x4)), (15, .arr 1 3 ((Jn x4).length + (Tc a_pred x4).length) (fun i => Ad (((Jn x4) ++ (Tc a_pred x4)).getD i (0 : Int))))], []⟩) (TmpsLe.refl _) (.same (.same (.arr (Bd (D8 _ _) (fun k_ hk_ => (congrArg (AV.eraseAll Wu) ((Jk (fun _ _ => rfl) (fun _ _ => rfl)) k_ hk_)).trans rfl)) .nil)))) (Bz (congrArg (fun k_ : Nat => (⟨[(0, (Ft a_pred)), (5, (.vpt 5 64 0 0)), (9, (.vpt 9 64 0 0)), (10, (.vsl 15 k_))], [(5, .arr 1 53 64 (G0 a_reached)), (9, .arr 1 53 64 (Q199 a_head x4)), (15, .arr 1 3 k_ (fun i => Ad (((Jn x4) ++ (Tc a_pred x4)).getD i (0 : Int))))], []⟩ : St)) (show ((Jn x4).length + (Tc a_pred x4).length) = ((Jn x4) ++ (Tc a_pred x4)).length from (D8 _ _))))) (Le.refl _ _)⟩
        · replace h := Aw hb h; clear hb; refine Ai ?_; obtain rfl := OI h; exact ⟨rfl, Fx [0, 5, 9, 10] [5, 9, 15] hq⟩
      · clear hx15; rcases x15 with ⟨l8, l9⟩; rintro e st' ⟨rfl, hl16⟩; refine Aa ?_; refine Af hl16 ?_; refine Hp ?_; obtain rfl := OI h; exact ⟨rfl, rfl, Le.refl _ _⟩
  · clear h hx29; rintro ⟨l1, l2⟩ y rest hf h; obtain rfl := OI hf; clear hf; unfold Dk at h; refine Ae ?_; refine Ai ?_; refine Aa ?_; refine Ae ?_; refine Au ⟨[(0, (Ft a_pred)), (5, (.vpt 5 64 0 0)), (9, (.vpt 9 64 0 0)), (10, (.vsl 15 l2.length)), (18, (.bool (((l2.length : Int) : Int) == (0 : Int))))], (Q194 a_reached l1 l2), []⟩ hq ?_; refine Ak (((l2.length : Int) : Int) == (0 : Int)) (by kernel_rfl) (fun hb => ?_) (fun hb => ?_)
    · replace h := Ao hb h; clear hb; obtain ⟨x17, hx17, h⟩ := bind_some h; refine B6 [⟨[], [(20000, 20)], (AV.list 1 Ad (0 : Int) x17 (.own 20000)), [(20000, .tok 1 3 x17.length)], []⟩] [] ⟨[(8, (AV.list 1 Ad (0 : Int) x17 (.own 20)))], [(20, .tok 1 3 x17.length)], []⟩ [(64 = 64), (Spec Try.prog 46 [(.agg (Fo l1))] [] (AV.list 1 Ad (0 : Int) x17 (.own 20000)) [(20000, .tok 1 3 x17.length)])] hq ⟨rfl, (Ho l1 x17 hx17), trivial⟩ ?_; refine Ar ?_; refine A2 ?_; obtain rfl := OI h; exact ⟨(by intro l hh; cases hh), rfl, ⟨.inl rfl, [(20, 20000)], by kernel_rfl⟩⟩
    · replace h := Aw hb h; clear hb; refine Ai ?_; refine Aa ?_; obtain ⟨hc18, h⟩ := Ab h; refine B6 [] [] ⟨[(0, (Ft a_pred)), (5, (.vpt 5 64 0 0)), (9, (.vpt 9 64 0 0)), (10, (.vsl 15 l2.length)), (11, (.int .i64 (Kv l2)))], (Q194 a_reached l1 l2), []⟩ [(A5 (Bi ((l2.length : Int) - (1 : Int))) l2.length), (l2.length = l2.length)] hq ⟨hc18, rfl, trivial⟩ ?_; obtain ⟨hc19, h⟩ := Ab h; refine B6 [] [] ⟨[(0, (Ft a_pred)), (5, (.vpt 5 64 0 0)), (9, (.vpt 9 64 0 0)), (10, (.vsub 15 l2.length 0 (Zu l2))), (11, (.int .i64 (Kv l2)))], (Q194 a_reached l1 l2), []⟩ [(0 ≤ (Bi ((l2.length : Int) - (1 : Int))) ∧ 0 + ((Bi ((l2.length : Int) - (1 : Int)))).toNat ≤ l2.length)] hq ⟨hc19, trivial⟩ ?_; refine Af (Le.trans (Le.trans (Ok (t := 10) (r := 15) (k := (Zu l2)) rfl rfl hc19.2 (by kernel_rfl) (.arr (fun _ => by kernel_rfl) (.arr (fun _ => by kernel_rfl) (.arr (fun _ => by kernel_rfl) .nil))) (by rw [hΓ]; rfl)) (Bz (st' := ⟨[(0, (Ft a_pred)), (5, (.vpt 5 64 0 0)), (9, (.vpt 9 64 0 0)), (10, (.vsl 15 (Zu l2))), (11, (.int .i64 (Kv l2)))], [(5, .arr 1 53 64 (G0 a_reached)), (9, .arr 1 53 64 (Q191 l1)), (15, .arr 1 3 (Zu l2) (fun i => Ad (l2.getD i (0 : Int))))], []⟩) (by kernel_rfl))) (Le.trans (Cb (st' := ⟨[(0, (Ft a_pred)), (5, (.vpt 5 64 0 0)), (9, (.vpt 9 64 0 0)), (10, (.vsl 15 (Zu l2))), (11, (.int .i64 (Kv l2)))], [(5, .arr 1 53 64 (G0 a_reached)), (9, .arr 1 53 64 (Q191 l1)), (15, .arr 1 3 (Zu l2) (Q201 l2))], []⟩) (TmpsLe.refl _) (.same (.same (.arr (Qm (e := Ad) (d := (0 : Int))) .nil)))) (Bz (congrArg (fun k_ : Nat => (⟨[(0, (Ft a_pred)), (5, (.vpt 5 64 0 0)), (9, (.vpt 9 64 0 0)), (10, (.vsl 15 k_)), (11, (.int .i64 (Kv l2)))], [(5, .arr 1 53 64 (G0 a_reached)), (9, .arr 1 53 64 (Q191 l1)), (15, .arr 1 3 k_ (Q201 l2))], []⟩ : St)) (show (Zu l2) = (Jm l2).length from Nz hc19.2))))) ?_; refine Ae ?_; obtain ⟨x27, hx27, h⟩ := bind_some h; refine Ey (fun ((l20, l21) : (List (Bool) × List (Int))) (e : Exit) (st : St) => e = .normal ∧ Le Γ st (⟨[(0, (Ft a_pred)), (5, (.vpt 5 64 0 0)), (9, (.vpt 9 64 0 0)), (10, (.vsl 15 l21.length))], [(5, .arr 1 53 64 (G0 a_reached)), (9, .arr 1 53 64 (fun i => eB (l20.getD i false))), (15, .arr 1 3 l21.length (fun i => Ad (l21.getD i (0 : Int))))], []⟩ : St)) hx27 ?_ ?_
      · clear h hx27; intro y h; obtain ⟨hc22, h⟩ := Ab h; obtain ⟨hc23, h⟩ := Ab h; refine B6 [] [] ⟨[(0, (Ft a_pred)), (5, (.vpt 5 64 0 0)), (9, (.vpt 9 64 0 0)), (10, (.vsl 15 (Jm l2).length)), (11, (.int .i64 (Kv l2))), (40, (.bool (bif (P5 a_reached l2) then (!(l1.getD ((Kv l2)).toNat false)) else false)))], [(5, .arr 1 53 64 (G0 a_reached)), (9, .arr 1 53 64 (Q191 l1)), (15, .arr 1 3 ((Jm l2).length) (Q201 l2))], []⟩ [(A5 (Kv l2) 64), (64 = 64), (((P5 a_reached l2) == true) = true → ((P5 a_reached l2) == true) = true), (((P5 a_reached l2) == true) = true → (A5 (Kv l2) 64)), (((P5 a_reached l2) == true) = true → ((P5 a_reached l2) == true) = true), (((P5 a_reached l2) == true) = true → (64 = 64)), (((P5 a_reached l2) == true) = true → ((P5 a_reached l2) == true) = true), ((P5 a_reached l2) = true → ((P5 a_reached l2) == true) = true)] hq ⟨hc22, rfl, (fun hg => hg), (fun hg => (hc23 hg)), (fun hg => hg), (fun hg => rfl), (fun hg => hg), gT, trivial⟩ ?_; refine Ak (bif (P5 a_reached l2) then (!(l1.getD ((Kv l2)).toNat false)) else false) (by kernel_rfl) (fun hb => ?_) (fun hb => ?_)
        · replace h := Ao hb h; clear hb; obtain ⟨hc24, h⟩ := Ab h; refine B6 [] [] ⟨[(0, (Ft a_pred)), (5, (.vpt 5 64 0 0)), (9, (.vpt 9 64 0 0)), (10, (.vsl 15 (Jm l2).length)), (11, (.int .i64 (Kv l2)))], [(5, .arr 1 53 64 (G0 a_reached)), (9, .arr 1 53 64 (fun i_ => AV.eraseAll Wu ((E7 (Q191 l1) ((Kv l2)).toNat 0 [(.bool true)]) i_))), (15, .arr 1 3 ((Jm l2).length) (Q201 l2))], []⟩ [(A5 (Kv l2) 64), (64 = 64)] hq ⟨hc24, rfl, trivial⟩ ?_; refine Af (Cb (st' := ⟨[(0, (Ft a_pred)), (5, (.vpt 5 64 0 0)), (9, (.vpt 9 64 0 0)), (10, (.vsl 15 (Jm l2).length)), (11, (.int .i64 (Kv l2)))], [(5, .arr 1 53 64 (G0 a_reached)), (9, .arr 1 53 64 (Q200 l1 l2)), (15, .arr 1 3 ((Jm l2).length) (Q201 l2))], []⟩) (TmpsLe.refl _) (.same (.arr (Bd rfl (fun k_ hk_ => (congrArg (AV.eraseAll Wu) ((Fb (fun _ _ => rfl) (D1 hc24) rfl) k_ hk_)).trans rfl)) (.same .nil)))) ?_; obtain ⟨hc25, h⟩ := Ab h; obtain ⟨hc26, h⟩ := Ab h; refine rg [] [] ⟨[(0, (Ft a_pred)), (5, (.vpt 5 64 0 0)), (9, (.vpt 9 64 0 0)), (10, (.vsl 15 ((Jm l2).length + (S6 a_pred l2).length)))], [(5, .arr 1 53 64 (G0 a_reached)), (9, .arr 1 53 64 (Q200 l1 l2)), (15, .arr 1 3 ((Jm l2).length + (S6 a_pred l2).length) (fun i_ => AV.eraseAll Wu ((E0 ((Jm l2).length) (Q201 l2) (fun i => Ad ((S6 a_pred l2).getD i (0 : Int)))) i_)))], []⟩ [(A5 (Kv l2) a_pred.length), ((Jm l2).length = (Jm l2).length), ((Jm l2).length + (S6 a_pred l2).length ≤ room)] hq ⟨hc25, rfl, hc26, trivial⟩ ?_; obtain rfl := OI h; exact ⟨rfl, Le.trans (Le.trans (Cb (st' := ⟨[(0, (Ft a_pred)), (5, (.vpt 5 64 0 0)), (9, (.vpt 9 64 0 0)), (10, (.vsl 15 ((Jm l2).length + (S6 a_pred l2).length)))], [(5, .arr 1 53 64 (G0 a_reached)), (9, .arr 1 53 64 (Q200 l1 l2)), (15, .arr 1 3 ((Jm l2).length + (S6 a_pred l2).length) (fun i => Ad (((Jm l2) ++ (S6 a_pred l2)).getD i (0 : Int))))], []⟩) (TmpsLe.refl _) (.same (.same (.arr (Bd (D8 _ _) (fun k_ hk_ => (congrArg (AV.eraseAll Wu) ((Jk (fun _ _ => rfl) (fun _ _ => rfl)) k_ hk_)).trans rfl)) .nil)))) (Bz (congrArg (fun k_ : Nat => (⟨[(0, (Ft a_pred)), (5, (.vpt 5 64 0 0)), (9, (.vpt 9 64 0 0)), (10, (.vsl 15 k_))], [(5, .arr 1 53 64 (G0 a_reached)), (9, .arr 1 53 64 (Q200 l1 l2)), (15, .arr 1 3 k_ (fun i => Ad (((Jm l2) ++ (S6 a_pred l2)).getD i (0 : Int))))], []⟩ : St)) (show ((Jm l2).length + (S6 a_pred l2).length) = ((Jm l2) ++ (S6 a_pred l2)).length from (D8 _ _))))) (Le.refl _ _)⟩
        · replace h := Aw hb h; clear hb; refine Ai ?_; obtain rfl := OI h; exact ⟨rfl, Fx [0, 5, 9, 10] [5, 9, 15] hq⟩
      · clear hx27; rcases x27 with ⟨l20, l21⟩; rintro e st' ⟨rfl, hl28⟩; refine Aa ?_; refine Af hl28 ?_; refine Hp ?_; obtain rfl := OI h; exact ⟨rfl, rfl, Le.refl _ _⟩
  · clear hx29; rintro e st' ⟨rfl, hk⟩; obtain rfl := OI h; exact hk
def Eb (x1 : List ((Int × Int))) : (Int × List (List (Int))) → Option (LR (Int × List (List (Int))) (List (List (Int)))) :=
  fun ((i2, l3) : (Int × List (List (Int)))) => (bif (decide ((i2 : Int) < (x1.length : Int))) then (Ce (A5 i2 x1.length) (Ce (A5 (x1.getD (i2).toNat ((0 : Int), (0 : Int))).2 64) (Ce (A5 (x1.getD (i2).toNat ((0 : Int), (0 : Int))).2 64) (Ce (((E6 64 [] l3).getD ((x1.getD (i2).toNat ((0 : Int), (0 : Int))).2).toNat []).length + ([(x1.getD (i2).toNat ((0 : Int), (0 : Int))).1] : List (Int)).length ≤ room) (Ce (A5 (x1.getD (i2).toNat ((0 : Int), (0 : Int))).2 64) (some (.next ((Bi (i2 + (1 : Int))), ((E6 64 [] l3).set ((x1.getD (i2).toNat ((0 : Int), (0 : Int))).2).toNat (((E6 64 [] l3).getD ((x1.getD (i2).toNat ((0 : Int), (0 : Int))).2).toNat []) ++ ([(x1.getD (i2).toNat ((0 : Int), (0 : Int))).1] : List (Int)))))))))))) else (some (.done l3)))
def Cd (a_g : An) (l4 : List (List (Int))) (x13 : List (Bool)) : (List (A6) × Int) → Option (LR (List (A6) × Int) (List (A6))) :=
  fun ((l14, i15) : (List (A6) × Int)) => (bif (decide ((i15 : Int) < (64 : Int))) then (Option.bind (α := List (A6)) (Ce (A5 i15 64) (bif (decide (((0 : Int) : Int) < ((l4.getD (i15).toNat []).length : Int))) then ((Hn a_g.Pred x13 i15 (l4.getD (i15).toNat [])).bind fun x19 => (Ce (l14.length + ([(⟨i15, x19⟩ : A6)] : List (A6)).length ≤ room) (some ((l14 ++ ([(⟨i15, x19⟩ : A6)] : List (A6))))))) else (some (l14)))) (fun x21 => ((some (.next (x21, (Bi (i15 + (1 : Int))))))))) else (some (.done l14)))
def Mn := (default : A6)
def Qc (x10 : List (List (Int))) : AV := (.agg (V4 x10))
def Us (x13 : List (Bool)) := (fun i => eB (x13.getD i false))
def P9 (i15 : Int) (x19 : List (Int)) := ([(⟨i15, x19⟩ : A6)] : List (A6))
def Hr (x1 : List ((Int × Int))) (i2 : Int) := (x1.getD (i2).toNat ((0 : Int), (0 : Int)))
def R5 (l3 : List (List (Int))) (x1 : List ((Int × Int))) (i2 : Int) := ((E6 64 [] l3).getD ((Hr x1 i2).2).toNat [])
def Q211 := (E6 64 [] (List.replicate 64 ([] : List (Int))))
def Q214 (l14 : List (A6)) : AV := (AV.list 2 D2 Mn l14 (.own 5009))
def Q219 (x1 : List ((Int × Int))) : AV := (AV.list 2 Ck ((0 : Int), (0 : Int)) x1 (.own 13))
def Q213 (l3 : List (List (Int))) := (Cq 1 Ad (0 : Int) (E6 64 [] l3) (Tag.fam 70003))
def Q215 (x10 : List (List (Int))) := (Cq 1 Ad (0 : Int) (E6 64 [] x10) (Tag.fam 70003))
def Q212 (x10 : List (List (Int))) (i15 : Int) : AV := (AV.list 1 Ad (0 : Int) (x10.getD (i15).toNat []) .none)
def Y2 (l3 : List (List (Int))) (x1 : List ((Int × Int))) (i2 : Int) := ((R5 l3 x1 i2) ++ ([(Hr x1 i2).1] : List (Int)))
def Q223 (l3 : List (List (Int))) (x1 : List ((Int × Int))) (i2 : Int) := ((E6 64 [] l3).set ((Hr x1 i2).2).toNat (Y2 l3 x1 i2))
def Q210 : AV := (AV.list 2 D2 Mn ([] : List A6) .exact)
def In (a_g : An) : List AV := [(AV.list 1 eLI64 [] a_g.Succ .none), (AV.list 1 eLI64 [] a_g.Pred .none)]
def Q220 (a_g : An) (l3 : List (List (Int))) (x1 : List ((Int × Int))) : List (Nat × Own) := [(1, .row 26 (In a_g)), (3, .arr 1 51 64 (Q213 l3)), (13, .tok 2 45 x1.length)]
def Q218 (a_g : An) (x13 : List (Bool)) (l14 : List (A6)) : List (Nat × Own) := [(1, .row 26 (In a_g)), (8, .arr 1 53 64 (Us x13)), (5009, .tok 2 38 l14.length)]
def Q207 (x1 : List ((Int × Int))) (i2 : Int) : List (Nat × AV) := [(1, (.ptr 1 0)), (3, (.vpt 3 64 0 0)), (13, (Q219 x1)), (14, (.int .i64 (x1.length : Int))), (15, (.int .i64 i2))]
def Q224 (x1 : List ((Int × Int))) (i2 : Int) : List (Nat × AV) := [(1, (.ptr 1 0)), (3, (.vpt 3 64 0 0)), (6, (.int .i64 (Hr x1 i2).1)), (7, (.int .i64 (Hr x1 i2).2)), (13, (Q219 x1)), (14, (.int .i64 (x1.length : Int))), (15, (.int .i64 i2))]
def Fk (a_g : An) : Option (List (A6)) :=
  ((Dy a_g).bind fun x1 => ((At (S := (Int × List (List (Int)))) (X := List (List (Int))) (Eb x1) ((0 : Int), (List.replicate 64 ([] : List (Int))))).bind (fun x10 => (((C8 a_g (0 : Int)).bind fun x12 => ((Fc x12).bind fun x13 => ((At (S := (List (A6) × Int)) (X := List (A6)) (Cd a_g x10 x13) (([] : List A6), (0 : Int))).bind (fun x23 => ((some x23))))))))))
theorem Ld (a_g : An) (r : List (A6)) (h : Fk a_g = some r) : Spec Try.prog 12 [(.agg (Ci a_g))] [] (AV.list 2 D2 (default : A6) r (.own 20000)) [(20000, .tok 2 38 r.length)] := by
  refine Ap (fn := Try.f12) Try.func12 rfl rfl (by kernel_rfl) (fun Γ hn hΓ => ?_); have hq : RgQ Try.prog Γ 56 [] := ⟨hn, mix, hΓ⟩; unfold Fk at h; refine B6 [] [(2, Q210)] ⟨[(1, (.ptr 1 0))], [(1, .row 26 (In a_g))], []⟩ [(AVle (.slice 0 0 (fun _ => []) .exact) Q210)] hq ⟨D3, trivial⟩ ?_; refine B6 [] [(3, (.vpt 3 64 0 0))] ⟨[(1, (.ptr 1 0)), (3, (.vpt 3 64 0 0))], [(1, .row 26 (In a_g)), (3, .arr 1 51 64 (fun i_ => AV.eraseAll (fun n_ => B4 n_ [1, 3]) ((fun i => (((List.replicate 64 [(.slice 0 0 (fun _ => []) .exact)]).flatten).drop (i * 1)).take 1) i_)))], []⟩ [] hq trivial ?_; refine Af (Le.trans (Cb (st' := ⟨[(1, (.ptr 1 0)), (3, (.vpt 3 64 0 0))], [(1, .row 26 (In a_g)), (3, .arr 1 51 64 (Cq 1 Ad (0 : Int) Q211 (fun _ => .exact)))], []⟩) (TmpsLe.refl _) (.same (.arr Vq .nil))) (Le.trans (Sl (r := 3) (b := 70003) Ad (0 : Int) Q211 3 rfl rfl padN_len.symm (fun h_ => absurd h_ (by decide))) (Bz (st' := ⟨[(1, (.ptr 1 0)), (3, (.vpt 3 64 0 0))], [(1, .row 26 (In a_g)), (3, .arr 1 51 64 (Cq 1 Ad (0 : Int) Q211 (Tag.fam 70003)))], [(70003, ⟨1, 3, Cw Q211⟩)]⟩) (by kernel_rfl)))) ?_; refine Ae ?_; obtain ⟨x1, hx1, h⟩ := bind_some h; refine B6 [⟨[], [(20000, 13)], (AV.list 2 Ck ((0 : Int), (0 : Int)) x1 (.own 20000)), [(20000, .tok 2 45 x1.length)], []⟩] [] ⟨[(1, (.ptr 1 0)), (3, (.vpt 3 64 0 0)), (13, (Q219 x1)), (14, (.int .i64 (x1.length : Int))), (15, (.int .i64 (0 : Int)))], [(1, .row 26 (In a_g)), (3, .arr 1 51 64 (Cq 1 Ad (0 : Int) Q211 (Tag.fam 70003))), (13, .tok 2 45 x1.length)], [(70003, ⟨1, 3, Cw Q211⟩)]⟩ [(Spec Try.prog 18 [(.agg (Ci a_g))] [] (AV.list 2 Ck ((0 : Int), (0 : Int)) x1 (.own 20000)) [(20000, .tok 2 45 x1.length)])] hq ⟨(Hg a_g x1 hx1), trivial⟩ ?_; refine Ah ?_; refine Af (st' := (fun ((i2, l3) : (Int × List (List (Int)))) => (⟨(Q207 x1 i2), (Q220 a_g l3 x1), [(70003, ⟨1, 3, Cw (E6 64 [] l3)⟩)]⟩ : St)) ((0 : Int), (List.replicate 64 ([] : List (Int))))) (Le.refl _ _) ?_; obtain ⟨x10, hx10, h⟩ := bind_some h; refine Bb (fun ((i2, l3) : (Int × List (List (Int)))) => (⟨(Q207 x1 i2), (Q220 a_g l3 x1), [(70003, ⟨1, 3, Cw (E6 64 [] l3)⟩)]⟩ : St)) _ (fun (l4 : List (List (Int))) (e : Exit) (st : St) => e = (.exit 0) ∧ Le Γ st (⟨[(1, (.ptr 1 0)), (3, (.vpt 3 64 0 0))], [(1, .row 26 (In a_g)), (3, .arr 1 51 64 (Cq 1 Ad (0 : Int) (E6 64 [] l4) (Tag.fam 70003)))], [(70003, ⟨1, 3, Cw (E6 64 [] l4)⟩)]⟩ : St)) ?_ hx10 ?_
  · rintro ⟨i2, l3⟩ y h; unfold Eb at h; refine Au ⟨[(1, (.ptr 1 0)), (3, (.vpt 3 64 0 0)), (13, (Q219 x1)), (14, (.int .i64 (x1.length : Int))), (15, (.int .i64 i2)), (16, (.bool (decide ((i2 : Int) < (x1.length : Int)))))], (Q220 a_g l3 x1), [(70003, ⟨1, 3, Cw (E6 64 [] l3)⟩)]⟩ hq ?_; refine Ae ?_; refine Ak (decide ((i2 : Int) < (x1.length : Int))) (by kernel_rfl) (fun hb => ?_) (fun hb => ?_)
    · replace h := Ao hb h; clear hb; refine Ai ?_; refine Aa ?_; refine Ae ?_; refine Ah ?_; obtain ⟨hc5, h⟩ := Ab h; refine B6 [] [] ⟨[(1, (.ptr 1 0)), (3, (.vpt 3 64 0 0)), (5, (.ptr 5 0)), (13, (Q219 x1)), (14, (.int .i64 (x1.length : Int))), (15, (.int .i64 i2))], [(1, .row 26 (In a_g)), (3, .arr 1 51 64 (Q213 l3)), (5, .row 45 [(.int .i64 (Hr x1 i2).1), (.int .i64 (Hr x1 i2).2)]), (13, .tok 2 45 x1.length)], [(70003, ⟨1, 3, Cw (E6 64 [] l3)⟩)]⟩ [(A5 i2 x1.length)] hq ⟨hc5, trivial⟩ ?_; refine B6 [] [] ⟨(Q224 x1 i2), (Q220 a_g l3 x1), [(70003, ⟨1, 3, Cw (E6 64 [] l3)⟩)]⟩ [(A5 (0 : Int) 2), (A5 (1 : Int) 2)] hq ⟨(by decide), (by decide), trivial⟩ ?_; obtain ⟨hc6, h⟩ := Ab h; obtain ⟨hc7, h⟩ := Ab h; obtain ⟨hc8, h⟩ := Ab h; obtain ⟨hc9, h⟩ := Ab h; refine Af (Le.trans (Vu (r := 3) (b := 70003) (k := 60003) Ad (0 : Int) (E6 64 [] l3) ((Hr x1 i2).2).toNat 3 rfl rfl rfl padN_len.symm (Vv (D1 hc6)) (by kernel_rfl) (.row (by kernel_rfl) (.here (.tok .nil)))) (Bz (st' := ⟨(Q224 x1 i2), [(1, .row 26 (In a_g)), (3, .arr 1 51 64 (Cq 1 Ad (0 : Int) (E6 64 [] l3) (Dc 70003 ((Hr x1 i2).2).toNat 60003))), (13, .tok 2 45 x1.length), (60003, .tok 1 3 ((R5 l3 x1 i2).length))], [(70003, ⟨1, 3, Ju (E6 64 [] l3) ((Hr x1 i2).2).toNat⟩)]⟩) (by kernel_rfl))) ?_; refine rg [] [(26, (AV.list 1 Ad (0 : Int) (R5 l3 x1 i2) (.own 60003))), (28, (AV.list 1 Ad (0 : Int) ([(Hr x1 i2).1] : List (Int)) .exact)), (29, (AV.list 1 Ad (0 : Int) (Y2 l3 x1 i2) (.own 60003)))] ⟨(Q207 x1 i2), [(1, .row 26 (In a_g)), (3, .arr 1 51 64 (fun i_ => AV.eraseAll (fun n_ => B4 n_ [1, 3, 13, 60003, 70003]) ((E7 (Cq 1 Ad (0 : Int) (E6 64 [] l3) (Dc 70003 ((Hr x1 i2).2).toNat 60003)) ((Hr x1 i2).2).toNat 0 [(AV.list 1 Ad (0 : Int) (Y2 l3 x1 i2) (.own 60003))]) i_))), (13, .tok 2 45 x1.length), (60003, .tok 1 3 ((Y2 l3 x1 i2).length))], [(70003, ⟨1, 3, Ju (E6 64 [] l3) ((Hr x1 i2).2).toNat⟩)]⟩ [(A5 (Hr x1 i2).2 64), (64 = 64), (AVle (((Cq 1 Ad (0 : Int) (E6 64 [] l3) (Dc 70003 ((Hr x1 i2).2).toNat 60003)) ((Hr x1 i2).2).toNat).getD 0 .any) (AV.list 1 Ad (0 : Int) (R5 l3 x1 i2) (.own 60003))), (AVle (.slice 1 1 (fun i => ([[(.int .i64 (Hr x1 i2).1)]] : List (List AV)).getD i []) .exact) (AV.list 1 Ad (0 : Int) ([(Hr x1 i2).1] : List (Int)) .exact)), ((R5 l3 x1 i2).length = (R5 l3 x1 i2).length), ((R5 l3 x1 i2).length + ([(Hr x1 i2).1] : List (Int)).length ≤ room), (AVle (.slice 1 ((R5 l3 x1 i2).length + ([(Hr x1 i2).1] : List (Int)).length) (E0 (R5 l3 x1 i2).length (fun i => Ad ((R5 l3 x1 i2).getD i (0 : Int))) (fun i => Ad (([(Hr x1 i2).1] : List (Int)).getD i (0 : Int)))) (.own 60003)) (AV.list 1 Ad (0 : Int) (Y2 l3 x1 i2) (.own 60003))), ((R5 l3 x1 i2).length + ([(Hr x1 i2).1] : List (Int)).length = (Y2 l3 x1 i2).length), (A5 (Hr x1 i2).2 64), (64 = 64)] hq ⟨hc7, rfl, O0, (Fh rfl (fun i hi => E2 (e := Ad) (d := (0 : Int)) ([(Hr x1 i2).1] : List (Int)) i hi)), rfl, hc8, Nn, (D8 _ _), hc9, rfl, trivial⟩ ?_; refine Am ?_; refine Aa ?_; refine Af (Le.trans (Le.trans (Y3 (r := 3) (b := 70003) (k := 60003) Ad (0 : Int) (E6 64 [] l3) ((Hr x1 i2).2).toNat (Y2 l3 x1 i2) 3 rfl (Qw (Vv (D1 hc6)) rfl rfl) rfl rfl rfl padN_len.symm (Vv (D1 hc6)) (by kernel_rfl) (.row (by kernel_rfl) (.here (.tok (.tok .nil)))) (by rw [hΓ]; rfl)) (Bz (st' := ⟨(Q207 x1 i2), [(1, .row 26 (In a_g)), (3, .arr 1 51 64 (Cq 1 Ad (0 : Int) (Q223 l3 x1 i2) (Tag.fam 70003))), (13, .tok 2 45 x1.length)], [(70003, ⟨1, 3, Cw (Q223 l3 x1 i2)⟩)]⟩) (by kernel_rfl))) (Bz (congrArg (fun k_ : List (List (Int)) => (⟨(Q207 x1 i2), [(1, .row 26 (In a_g)), (3, .arr 1 51 64 (Cq 1 Ad (0 : Int) k_ (Tag.fam 70003))), (13, .tok 2 45 x1.length)], [(70003, ⟨1, 3, Cw k_⟩)]⟩ : St)) (show (Q223 l3 x1 i2) = (E6 64 [] (Q223 l3 x1 i2)) from Uf ((List.length_set ..).trans padN_len))))) ?_; refine Ll ⟨[(1, (.ptr 1 0)), (3, (.vpt 3 64 0 0)), (13, (Q219 x1)), (14, (.int .i64 (x1.length : Int))), (15, (.int .i64 (Bi (i2 + (1 : Int)))))], [(1, .row 26 (In a_g)), (3, .arr 1 51 64 (Cq 1 Ad (0 : Int) (E6 64 [] (Q223 l3 x1 i2)) (Tag.fam 70003))), (13, .tok 2 45 x1.length)], [(70003, ⟨1, 3, Cw (E6 64 [] (Q223 l3 x1 i2))⟩)]⟩ hq ?_; obtain rfl := OI h; exact ⟨rfl, Le.refl _ _⟩
    · replace h := Aw hb h; clear hb; refine Bc ?_; refine A1 ?_; obtain rfl := OI h; exact ⟨(by intro hh; cases hh), rfl, Fx [1, 3] [1, 3, 70003] hq⟩
  · clear hx10; rintro e st' ⟨rfl, hl11⟩; refine Ay ?_; refine Aa ?_; refine Af hl11 ?_; obtain ⟨x12, hx12, h⟩ := bind_some h; obtain ⟨x13, hx13, h⟩ := bind_some h; refine B6 [⟨[], [(20000, 33)], (AV.list 1 Ad (0 : Int) x12 (.own 20000)), [(20000, .tok 1 3 x12.length)], []⟩, ⟨[], [], (.agg (Fo x13)), [], []⟩] [(8, (.vpt 8 64 0 0))] ⟨[(1, (.ptr 1 0)), (3, (.vpt 3 64 0 0)), (8, (.vpt 8 64 0 0))], [(1, .row 26 (In a_g)), (3, .arr 1 51 64 (Q215 x10)), (8, .arr 1 53 64 (fun i_ => AV.eraseAll (fun n_ => B4 n_ [1, 3, 8, 70003]) ((fun i_ => (((Fo x13)).drop (i_ * 1)).take 1) i_)))], [(70003, ⟨1, 3, Cw (E6 64 [] x10)⟩)]⟩ [(Spec Try.prog 20 [(.agg (Ci a_g)), (.int .i64 (0 : Int))] [] (AV.list 1 Ad (0 : Int) x12 (.own 20000)) [(20000, .tok 1 3 x12.length)]), (Spec Try.prog 30 [(AV.list 1 Ad (0 : Int) x12 .none)] [] (.agg (Fo x13)) []), (64 = 64)] hq ⟨(Il a_g (0 : Int) x12 hx12), (Rs x12 x13 hx13), rfl, trivial⟩ ?_; refine Af (Cb (st' := ⟨[(1, (.ptr 1 0)), (3, (.vpt 3 64 0 0)), (8, (.vpt 8 64 0 0))], [(1, .row 26 (In a_g)), (3, .arr 1 51 64 (Q215 x10)), (8, .arr 1 53 64 (Us x13))], [(70003, ⟨1, 3, Cw (E6 64 [] x10)⟩)]⟩) (TmpsLe.refl _) (.same (.same (.arr (Bd rfl (fun k_ hk_ => (congrArg (AV.eraseAll (fun n_ => B4 n_ [1, 3, 8, 70003])) ((J6 (n := 64) (sz := 1) (f := (Us x13)) (fun _ _ => rfl)) k_ hk_)).trans rfl)) .nil)))) ?_; refine B6 [] [(9, Q210)] ⟨[(1, (.ptr 1 0)), (3, (.vpt 3 64 0 0)), (8, (.vpt 8 64 0 0)), (9, Q210)], [(1, .row 26 (In a_g)), (3, .arr 1 51 64 (Q215 x10)), (8, .arr 1 53 64 (Us x13))], [(70003, ⟨1, 3, Cw (E6 64 [] x10)⟩)]⟩ [(AVle (.slice 0 0 (fun _ => []) .exact) Q210)] hq ⟨D3, trivial⟩ ?_; refine Ae ?_; refine B6 [] [(35, (Qc x10))] ⟨[(1, (.ptr 1 0)), (8, (.vpt 8 64 0 0)), (9, Q210), (35, (Qc x10)), (36, (.int .i64 (0 : Int)))], [(1, .row 26 (In a_g)), (8, .arr 1 53 64 (Us x13))], []⟩ [(64 = 64), (AVle (.agg (Gn 64 (Q215 x10))) (Qc x10))] hq ⟨rfl, (Vl rfl), trivial⟩ ?_; refine Ah ?_; refine Af (st' := (fun ((l14, i15) : (List (A6) × Int)) => (⟨[(1, (.ptr 1 0)), (8, (.vpt 8 64 0 0)), (9, (Q214 l14)), (35, (Qc x10)), (36, (.int .i64 i15))], (Q218 a_g x13 l14), []⟩ : St)) (([] : List A6), (0 : Int))) (Le.trans (Pg (t := 9) (nm := 5009) (sz' := 2) (fun i => D2 (([] : List A6).getD i Mn)) 38 rfl rfl (.inl ⟨rfl, rfl⟩) (fun h_ => absurd h_ (by decide))) (Fx (st' := ⟨[(1, (.ptr 1 0)), (8, (.vpt 8 64 0 0)), (9, (AV.list 2 D2 Mn ([] : List A6) (.own 5009))), (35, (Qc x10)), (36, (.int .i64 (0 : Int)))], [(1, .row 26 (In a_g)), (8, .arr 1 53 64 (Us x13)), (5009, .tok 2 38 (([] : List A6).length))], []⟩) [1, 8, 9, 35, 36] [1, 8, 5009] hq)) ?_; obtain ⟨x23, hx23, h⟩ := bind_some h; refine Bb (fun ((l14, i15) : (List (A6) × Int)) => (⟨[(1, (.ptr 1 0)), (8, (.vpt 8 64 0 0)), (9, (Q214 l14)), (35, (Qc x10)), (36, (.int .i64 i15))], (Q218 a_g x13 l14), []⟩ : St)) _ (fun (l16 : List (A6)) (e : Exit) (st : St) => e = (.exit 2) ∧ Le Γ st (⟨[(9, (AV.list 2 D2 Mn l16 (.own 5009)))], [(5009, .tok 2 38 l16.length)], []⟩ : St)) ?_ hx23 ?_
    · rintro ⟨l14, i15⟩ y h; unfold Cd at h; refine Au ⟨[(1, (.ptr 1 0)), (8, (.vpt 8 64 0 0)), (9, (Q214 l14)), (35, (Qc x10)), (36, (.int .i64 i15)), (37, (.bool (decide ((i15 : Int) < (64 : Int)))))], (Q218 a_g x13 l14), []⟩ hq ?_; refine Ae ?_; refine Ak (decide ((i15 : Int) < (64 : Int))) (by kernel_rfl) (fun hb => ?_) (fun hb => ?_)
      · replace h := Ao hb h; clear hb; refine Ai ?_; refine Aa ?_; refine Ae ?_; obtain ⟨x21, hx21, h⟩ := bind_some h; refine Ey (fun (l17 : List (A6)) (e : Exit) (st : St) => e = .normal ∧ Le Γ st (⟨[(1, (.ptr 1 0)), (8, (.vpt 8 64 0 0)), (9, (AV.list 2 D2 Mn l17 (.own 5009))), (35, (Qc x10)), (36, (.int .i64 i15))], [(1, .row 26 (In a_g)), (8, .arr 1 53 64 (Us x13)), (5009, .tok 2 38 l17.length)], []⟩ : St)) hx21 ?_ ?_
        · clear h hx21; intro y h; refine Ah ?_; obtain ⟨hc18, h⟩ := Ab h; refine B6 [] [(39, (Q212 x10 i15))] ⟨[(1, (.ptr 1 0)), (8, (.vpt 8 64 0 0)), (9, (Q214 l14)), (10, (.int .i64 i15)), (11, (Q212 x10 i15)), (35, (Qc x10)), (36, (.int .i64 i15))], (Q218 a_g x13 l14), []⟩ [(A5 i15 64), (AVle ((V4 x10).getD (i15).toNat .any) (Q212 x10 i15))] hq ⟨hc18, (flat_at (n := 64) (f := fun i => eLI64 (x10.getD i [])) rfl (fun _ _ => rfl) (D1 hc18) rfl), trivial⟩ ?_; refine Au ⟨[(1, (.ptr 1 0)), (8, (.vpt 8 64 0 0)), (9, (Q214 l14)), (10, (.int .i64 i15)), (11, (Q212 x10 i15)), (35, (Qc x10)), (36, (.int .i64 i15)), (42, (.bool (decide (((0 : Int) : Int) < ((x10.getD (i15).toNat []).length : Int)))))], (Q218 a_g x13 l14), []⟩ hq ?_; refine Ak (decide (((0 : Int) : Int) < ((x10.getD (i15).toNat []).length : Int))) (by kernel_rfl) (fun hb => ?_) (fun hb => ?_)
          · replace h := Ao hb h; clear hb; obtain ⟨x19, hx19, h⟩ := bind_some h; obtain ⟨hc20, h⟩ := Ab h; refine rg [⟨[], [(20000, 50)], (AV.list 1 Ad (0 : Int) x19 (.own 20000)), [(20000, .tok 1 3 x19.length)], []⟩] [(52, (AV.list 2 D2 Mn (P9 i15 x19) .exact)), (53, (AV.list 2 D2 Mn (l14 ++ (P9 i15 x19)) (.own 5009)))] ⟨[(1, (.ptr 1 0)), (8, (.vpt 8 64 0 0)), (9, (AV.list 2 D2 Mn (l14 ++ (P9 i15 x19)) (.own 5009))), (35, (Qc x10)), (36, (.int .i64 i15))], [(1, .row 26 (In a_g)), (8, .arr 1 53 64 (Us x13)), (5009, .tok 2 38 ((l14 ++ (P9 i15 x19)).length))], []⟩ [(64 = 64), (Spec Try.prog 31 [(AV.list 1 eLI64 [] a_g.Pred .none), (.agg (Fo x13)), (.int .i64 i15), (Q212 x10 i15)] [] (AV.list 1 Ad (0 : Int) x19 (.own 20000)) [(20000, .tok 1 3 x19.length)]), (AVle (.slice 2 1 (fun i => ([[(.int .i64 i15), (AV.list 1 Ad (0 : Int) x19 .none)]] : List (List AV)).getD i []) .exact) (AV.list 2 D2 Mn (P9 i15 x19) .exact)), (l14.length = l14.length), (l14.length + (P9 i15 x19).length ≤ room), (AVle (.slice 2 (l14.length + (P9 i15 x19).length) (E0 l14.length (fun i => D2 (l14.getD i Mn)) (fun i => D2 ((P9 i15 x19).getD i Mn))) (.own 5009)) (AV.list 2 D2 Mn (l14 ++ (P9 i15 x19)) (.own 5009))), (l14.length + (P9 i15 x19).length = (l14 ++ (P9 i15 x19)).length)] hq ⟨rfl, (Vk a_g.Pred x13 i15 (x10.getD (i15).toNat []) x19 hx19), (Fh rfl (fun i hi => E2 (e := D2) (d := Mn) (P9 i15 x19) i hi)), rfl, hc20, Nn, (D8 _ _), trivial⟩ ?_; refine Am ?_; obtain rfl := OI h; exact ⟨rfl, Le.refl _ _⟩
          · replace h := Aw hb h; clear hb; refine Ai ?_; refine Am ?_; obtain rfl := OI h; exact ⟨rfl, Fx [1, 8, 9, 35, 36] [1, 8, 5009] hq⟩
        · clear hx21; rintro e st' ⟨rfl, hl22⟩; refine Aa ?_; refine Af hl22 ?_; refine Ll ⟨[(1, (.ptr 1 0)), (8, (.vpt 8 64 0 0)), (9, (AV.list 2 D2 Mn x21 (.own 5009))), (35, (Qc x10)), (36, (.int .i64 (Bi (i15 + (1 : Int)))))], [(1, .row 26 (In a_g)), (8, .arr 1 53 64 (Us x13)), (5009, .tok 2 38 x21.length)], []⟩ hq ?_; obtain rfl := OI h; exact ⟨rfl, Le.refl _ _⟩
      · replace h := Aw hb h; clear hb; refine Bc ?_; refine A1 ?_; obtain rfl := OI h; exact ⟨(by intro hh; cases hh), rfl, Fx [9] [5009] hq⟩
    · clear hx23; rintro e st' ⟨rfl, hl24⟩; refine Ay ?_; refine Aa ?_; refine Af hl24 ?_; refine Au ⟨[(2, (AV.list 2 D2 Mn x23 (.own 5009)))], [(5009, .tok 2 38 x23.length)], []⟩ hq ?_; refine Ar ?_; obtain rfl := OI h; exact ⟨.inl rfl, [(5009, 20000)], by kernel_rfl⟩
def Bj (a_a : List (Int)) (a_b : List (Int)) : Int → Option (LR Int (Unit ⊕ Bool)) :=
  fun (i1 : Int) => (bif (decide ((i1 : Int) < (a_a.length : Int))) then (Ce (A5 i1 a_a.length) (Ce (A5 i1 a_b.length) (bif (((a_a.getD (i1).toNat (0 : Int)) : Int) != (a_b.getD (i1).toNat (0 : Int))) then (some (.done (.inr false))) else (some (.next (Bi (i1 + (1 : Int)))))))) else (some (.done (.inl ()))))
def Xn (a_a : List (Int)) : AV := (AV.list 1 Ad (0 : Int) a_a .none)
def X1 (a_b : List (Int)) : AV := (AV.list 1 Ad (0 : Int) a_b .none)
def Cs (a_a : List (Int)) (a_b : List (Int)) : Option Bool :=
  (bif (((a_a.length : Int) : Int) != (a_b.length : Int)) then (some false) else ((At (S := Int) (X := (Unit ⊕ Bool)) (Bj a_a a_b) (0 : Int)).bind (fun x4 => (match x4 with | (.inl _) => (some true) | (.inr r6) => (some r6)))))
theorem Ky (a_a : List (Int)) (a_b : List (Int)) (r : Bool) (h : Cs a_a a_b = some r) : Spec Try.prog 21 [(AV.list 1 Ad (0 : Int) a_a .none), (AV.list 1 Ad (0 : Int) a_b .none)] [] (.bool r) [] := by
  refine Ap (fn := Try.f21) Try.func21 rfl rfl (by kernel_rfl) (fun Γ hn hΓ => ?_); have hq : RgQ Try.prog Γ 26 [] := ⟨hn, mix, hΓ⟩; unfold Cs at h; refine Au ⟨[(0, (Xn a_a)), (1, (X1 a_b))], [], []⟩ hq ?_; refine Ae ?_; refine Au ⟨[(0, (Xn a_a)), (1, (X1 a_b)), (10, (.bool (((a_a.length : Int) : Int) != (a_b.length : Int))))], [], []⟩ hq ?_; refine Ak (((a_a.length : Int) : Int) != (a_b.length : Int)) (by kernel_rfl) (fun hb => ?_) (fun hb => ?_)
  · replace h := Ao hb h; clear hb; refine Au ⟨[(4, (.bool false))], [], []⟩ hq ?_; refine Ar ?_; refine A2 ?_; obtain rfl := OI h; exact ⟨.inl rfl, [], by kernel_rfl⟩
  · replace h := Aw hb h; clear hb; refine Ai ?_; refine Aa ?_; refine Ae ?_; refine Au ⟨[(0, (Xn a_a)), (1, (X1 a_b)), (5, (.int .i64 (0 : Int)))], [], []⟩ hq ?_; refine Ah ?_; refine Af (st' := (fun (i1 : Int) => (⟨[(0, (Xn a_a)), (1, (X1 a_b)), (5, (.int .i64 i1))], [], []⟩ : St)) (0 : Int)) (Le.refl _ _) ?_; obtain ⟨x4, hx4, h⟩ := bind_some h; refine Bb (fun (i1 : Int) => (⟨[(0, (Xn a_a)), (1, (X1 a_b)), (5, (.int .i64 i1))], [], []⟩ : St)) _ (fun (x_ : (Unit ⊕ Bool)) (e : Exit) (st : St) => match x_ with | (.inl _) => e = (.exit 0) ∧ Le Γ st (⟨[], [], []⟩ : St) | (.inr r_) => e = .ret ∧ Mt Try.prog Try.f21.results.toList [] (.bool r_) [] e st) ?_ hx4 ?_
    · intro i1 y h; unfold Bj at h; refine Ae ?_; refine Au ⟨[(0, (Xn a_a)), (1, (X1 a_b)), (5, (.int .i64 i1)), (14, (.bool (decide ((i1 : Int) < (a_a.length : Int)))))], [], []⟩ hq ?_; refine Ak (decide ((i1 : Int) < (a_a.length : Int))) (by kernel_rfl) (fun hb => ?_) (fun hb => ?_)
      · replace h := Ao hb h; clear hb; refine Ai ?_; refine Aa ?_; refine Ae ?_; refine Ah ?_; obtain ⟨hc2, h⟩ := Ab h; obtain ⟨hc3, h⟩ := Ab h; refine B6 [] [] ⟨[(0, (Xn a_a)), (1, (X1 a_b)), (5, (.int .i64 i1)), (25, (.bool (((a_a.getD (i1).toNat (0 : Int)) : Int) != (a_b.getD (i1).toNat (0 : Int)))))], [], []⟩ [(A5 i1 a_a.length), (A5 i1 a_b.length)] hq ⟨hc2, hc3, trivial⟩ ?_; refine Ak (((a_a.getD (i1).toNat (0 : Int)) : Int) != (a_b.getD (i1).toNat (0 : Int))) (by kernel_rfl) (fun hb => ?_) (fun hb => ?_)
        · replace h := Ao hb h; clear hb; refine Au ⟨[(4, (.bool false))], [], []⟩ hq ?_; refine Ar ?_; refine B1 ?_; refine A2 ?_; obtain rfl := OI h; exact ⟨(by intro hh; cases hh), rfl, ⟨.inl rfl, [], by kernel_rfl⟩⟩
        · replace h := Aw hb h; clear hb; refine Ai ?_; refine Am ?_; refine Aa ?_; refine Ll ⟨[(0, (Xn a_a)), (1, (X1 a_b)), (5, (.int .i64 (Bi (i1 + (1 : Int)))))], [], []⟩ hq ?_; obtain rfl := OI h; exact ⟨rfl, Le.refl _ _⟩
      · replace h := Aw hb h; clear hb; refine Bc ?_; refine A1 ?_; obtain rfl := OI h; exact ⟨(by intro hh; cases hh), rfl, Fx [] [] hq⟩
    · clear hx4; rcases x4 with _ | r6
      · rintro e st' ⟨rfl, hl5⟩; refine Ay ?_; refine Aa ?_; refine Af hl5 ?_; refine Au ⟨[(4, (.bool true))], [], []⟩ hq ?_; refine Ar ?_; obtain rfl := OI h; exact ⟨.inl rfl, [], by kernel_rfl⟩
      · rintro e st' ⟨rfl, hk⟩; refine B1 ?_; refine A2 ?_; obtain rfl := OI h; exact hk
def Cy (a_s : List (Int)) (a_v : Int) : Option Bool :=
  ((Cj a_s a_v).bind fun x1 => (some (decide (((0 : Int) : Int) ≤ x1))))
theorem Ib (a_s : List (Int)) (a_v : Int) (r : Bool) (h : Cy a_s a_v = some r) : Spec Try.prog 38 [(AV.list 1 Ad (0 : Int) a_s .none), (.int .i64 a_v)] [] (.bool r) [] := by
  refine Ap (fn := Try.f38) Try.func38 rfl rfl (by kernel_rfl) (fun Γ hn hΓ => ?_); have hq : RgQ Try.prog Γ 9 [] := ⟨hn, mix, hΓ⟩; unfold Cy at h; refine Au ⟨[(0, (AV.list 1 Ad (0 : Int) a_s .none)), (1, (.int .i64 a_v))], [], []⟩ hq ?_; obtain ⟨x1, hx1, h⟩ := bind_some h; refine B6 [⟨[], [], (.int .i64 x1), [], []⟩] [] ⟨[(4, (.bool (decide (((0 : Int) : Int) ≤ x1))))], [], []⟩ [(Spec Try.prog 55 [(AV.list 1 Ad (0 : Int) a_s .none), (.int .i64 a_v)] [] (.int .i64 x1) [])] hq ⟨(Gj a_s a_v x1 hx1), trivial⟩ ?_; refine Ar ?_; obtain rfl := OI h; exact ⟨.inl rfl, [], by kernel_rfl⟩
def Dm (a_x : Int) (x1 : List (A6)) : (Int × Int) → Option (LR (Int × Int) Int) :=
  fun ((i2, i3) : (Int × Int)) => (bif (decide ((i3 : Int) < (x1.length : Int))) then (Option.bind (α := Int) (Ce (A5 i3 x1.length) ((Cy ((x1.getD (i3).toNat (default : A6)).Body) a_x).bind fun x7 => (bif x7 then (some ((Bi (i2 + (1 : Int))))) else (some (i2))))) (fun x8 => ((some (.next (x8, (Bi (i3 + (1 : Int))))))))) else (some (.done i2)))
def Xt (x1 : List (A6)) : List (Nat × Own) := [(9, .tok 2 38 x1.length)]
def Vc (x1 : List (A6)) : AV := (.int .i64 (x1.length : Int))
def U5 (x1 : List (A6)) : AV := (AV.list 2 D2 (default : A6) x1 (.own 9))
def En (a_g : An) (a_x : Int) : Option Int :=
  ((Fk a_g).bind fun x1 => ((At (S := (Int × Int)) (X := Int) (Dm a_x x1) ((0 : Int), (0 : Int))).bind (fun x10 => ((some x10)))))
theorem Jf (a_g : An) (a_x : Int) (r : Int) (h : En a_g a_x = some r) : Spec Try.prog 19 [(.agg (Ci a_g)), (.int .i64 a_x)] [] (.int .i64 r) [] := by
  refine Ap (fn := Try.f19) Try.func19 rfl rfl (by kernel_rfl) (fun Γ hn hΓ => ?_); have hq : RgQ Try.prog Γ 23 [] := ⟨hn, mix, hΓ⟩; unfold En at h; refine Au ⟨[(1, (.int .i64 a_x)), (2, (.ptr 2 0))], [(2, .row 26 [(AV.list 1 eLI64 [] a_g.Succ .none), (AV.list 1 eLI64 [] a_g.Pred .none)])], []⟩ hq ?_; refine Au ⟨[(1, (.int .i64 a_x)), (2, (.ptr 2 0)), (5, (.int .i64 (0 : Int)))], [(2, .row 26 [(AV.list 1 eLI64 [] a_g.Succ .none), (AV.list 1 eLI64 [] a_g.Pred .none)])], []⟩ hq ?_; refine Ae ?_; obtain ⟨x1, hx1, h⟩ := bind_some h; refine B6 [⟨[], [(20000, 9)], (AV.list 2 D2 (default : A6) x1 (.own 20000)), [(20000, .tok 2 38 x1.length)], []⟩] [] ⟨[(1, (.int .i64 a_x)), (5, (.int .i64 (0 : Int))), (9, (U5 x1)), (10, (Vc x1)), (11, (.int .i64 (0 : Int)))], (Xt x1), []⟩ [(Spec Try.prog 12 [(.agg (Ci a_g))] [] (AV.list 2 D2 (default : A6) x1 (.own 20000)) [(20000, .tok 2 38 x1.length)])] hq ⟨(Ld a_g x1 hx1), trivial⟩ ?_; refine Ah ?_; refine Af (st' := (fun ((i2, i3) : (Int × Int)) => (⟨[(1, (.int .i64 a_x)), (5, (.int .i64 i2)), (9, (U5 x1)), (10, (Vc x1)), (11, (.int .i64 i3))], (Xt x1), []⟩ : St)) ((0 : Int), (0 : Int))) (Le.refl _ _) ?_; obtain ⟨x10, hx10, h⟩ := bind_some h; refine Bb (fun ((i2, i3) : (Int × Int)) => (⟨[(1, (.int .i64 a_x)), (5, (.int .i64 i2)), (9, (U5 x1)), (10, (Vc x1)), (11, (.int .i64 i3))], (Xt x1), []⟩ : St)) _ (fun (i4 : Int) (e : Exit) (st : St) => e = (.exit 0) ∧ Le Γ st (⟨[(5, (.int .i64 i4))], [], []⟩ : St)) ?_ hx10 ?_
  · rintro ⟨i2, i3⟩ y h; unfold Dm at h; refine Au ⟨[(1, (.int .i64 a_x)), (5, (.int .i64 i2)), (9, (U5 x1)), (10, (Vc x1)), (11, (.int .i64 i3)), (12, (.bool (decide ((i3 : Int) < (x1.length : Int)))))], (Xt x1), []⟩ hq ?_; refine Ae ?_; refine Ak (decide ((i3 : Int) < (x1.length : Int))) (by kernel_rfl) (fun hb => ?_) (fun hb => ?_)
    · replace h := Ao hb h; clear hb; refine Ai ?_; refine Aa ?_; refine Ae ?_; obtain ⟨x8, hx8, h⟩ := bind_some h; refine Ey (fun (i5 : Int) (e : Exit) (st : St) => e = .normal ∧ Le Γ st (⟨[(1, (.int .i64 a_x)), (5, (.int .i64 i5)), (9, (U5 x1)), (10, (Vc x1)), (11, (.int .i64 i3))], (Xt x1), []⟩ : St)) hx8 ?_ ?_
      · clear h hx8; intro y h; refine Ah ?_; obtain ⟨hc6, h⟩ := Ab h; refine B6 [] [] ⟨[(1, (.int .i64 a_x)), (5, (.int .i64 i2)), (7, (.ptr 7 0)), (9, (U5 x1)), (10, (Vc x1)), (11, (.int .i64 i3))], [(7, .row 38 [(.int .i64 (x1.getD (i3).toNat (default : A6)).Head), (AV.list 1 Ad (0 : Int) (x1.getD (i3).toNat (default : A6)).Body .none)]), (9, .tok 2 38 x1.length)], []⟩ [(A5 i3 x1.length)] hq ⟨hc6, trivial⟩ ?_; obtain ⟨x7, hx7, h⟩ := bind_some h; refine B6 [⟨[], [], (.bool x7), [], []⟩] [] ⟨[(1, (.int .i64 a_x)), (5, (.int .i64 i2)), (9, (U5 x1)), (10, (Vc x1)), (11, (.int .i64 i3)), (18, (.bool x7))], (Xt x1), []⟩ [(Spec Try.prog 38 [(AV.list 1 Ad (0 : Int) (x1.getD (i3).toNat (default : A6)).Body .none), (.int .i64 a_x)] [] (.bool x7) [])] hq ⟨(Ib ((x1.getD (i3).toNat (default : A6)).Body) a_x x7 hx7), trivial⟩ ?_; refine Ak x7 (by kernel_rfl) (fun hb => ?_) (fun hb => ?_)
        · replace h := Ao hb h; clear hb; refine Ll ⟨[(1, (.int .i64 a_x)), (5, (.int .i64 (Bi (i2 + (1 : Int))))), (9, (U5 x1)), (10, (Vc x1)), (11, (.int .i64 i3))], (Xt x1), []⟩ hq ?_; refine Am ?_; obtain rfl := OI h; exact ⟨rfl, Le.refl _ _⟩
        · replace h := Aw hb h; clear hb; refine Ai ?_; refine Am ?_; obtain rfl := OI h; exact ⟨rfl, Fx [1, 5, 9, 10, 11] [9] hq⟩
      · clear hx8; rintro e st' ⟨rfl, hl9⟩; refine Aa ?_; refine Af hl9 ?_; refine Ll ⟨[(1, (.int .i64 a_x)), (5, (.int .i64 x8)), (9, (U5 x1)), (10, (Vc x1)), (11, (.int .i64 (Bi (i3 + (1 : Int)))))], (Xt x1), []⟩ hq ?_; obtain rfl := OI h; exact ⟨rfl, Le.refl _ _⟩
    · replace h := Aw hb h; clear hb; refine Bc ?_; refine A1 ?_; obtain rfl := OI h; exact ⟨(by intro hh; cases hh), rfl, Fx [5] [] hq⟩
  · clear hx10; rintro e st' ⟨rfl, hl11⟩; refine Ay ?_; refine Aa ?_; refine Af hl11 ?_; refine Au ⟨[(4, (.int .i64 x10))], [], []⟩ hq ?_; refine Ar ?_; obtain rfl := OI h; exact ⟨.inl rfl, [], by kernel_rfl⟩
def Bf (a_s : List ((Int × Int))) (a_v : (Int × Int)) : Int → Option (LR Int (Unit ⊕ Int)) :=
  fun (i1 : Int) => (bif (decide ((i1 : Int) < (a_s.length : Int))) then (Ce (A5 i1 a_s.length) (bif (((a_v.1 : Int) == (a_s.getD (i1).toNat ((0 : Int), (0 : Int))).1) && (((a_v.2 : Int) == (a_s.getD (i1).toNat ((0 : Int), (0 : Int))).2) && true)) then (some (.done (.inr i1))) else (some (.next (Bi (i1 + (1 : Int))))))) else (some (.done (.inl ()))))
def Ys (a_s : List ((Int × Int))) : AV := (.int .i64 (a_s.length : Int))
def Wq (a_s : List ((Int × Int))) : AV := (AV.list 2 Ck ((0 : Int), (0 : Int)) a_s .none)
def Xq (a_v : (Int × Int)) : List (Nat × Own) := [(3, .row 45 [(.int .i64 a_v.1), (.int .i64 a_v.2)])]
def Di (a_s : List ((Int × Int))) (a_v : (Int × Int)) : Option Int :=
  ((At (S := Int) (X := (Unit ⊕ Int)) (Bf a_s a_v) (0 : Int)).bind (fun x3 => (match x3 with | (.inl _) => (some (-1 : Int)) | (.inr r5) => (some r5))))
theorem H2 (a_s : List ((Int × Int))) (a_v : (Int × Int)) (r : Int) (h : Di a_s a_v = some r) : Spec Try.prog 58 [(AV.list 2 Ck ((0 : Int), (0 : Int)) a_s .none), (.agg (Ck a_v))] [] (.int .i64 r) [] := by
  refine Ap (fn := Try.f58) Try.func58 rfl rfl (by kernel_rfl) (fun Γ hn hΓ => ?_); have hq : RgQ Try.prog Γ 19 [] := ⟨hn, mix, hΓ⟩; unfold Di at h; refine Au ⟨[(0, (Wq a_s)), (3, (.ptr 3 0))], (Xq a_v), []⟩ hq ?_; refine Ae ?_; refine Au ⟨[(0, (Wq a_s)), (3, (.ptr 3 0)), (7, (Ys a_s)), (8, (.int .i64 (0 : Int)))], (Xq a_v), []⟩ hq ?_; refine Ah ?_; refine Af (st' := (fun (i1 : Int) => (⟨[(0, (Wq a_s)), (3, (.ptr 3 0)), (7, (Ys a_s)), (8, (.int .i64 i1))], (Xq a_v), []⟩ : St)) (0 : Int)) (Le.refl _ _) ?_; obtain ⟨x3, hx3, h⟩ := bind_some h; refine Bb (fun (i1 : Int) => (⟨[(0, (Wq a_s)), (3, (.ptr 3 0)), (7, (Ys a_s)), (8, (.int .i64 i1))], (Xq a_v), []⟩ : St)) _ (fun (x_ : (Unit ⊕ Int)) (e : Exit) (st : St) => match x_ with | (.inl _) => e = (.exit 0) ∧ Le Γ st (⟨[], [], []⟩ : St) | (.inr r_) => e = .ret ∧ Mt Try.prog Try.f58.results.toList [] (.int .i64 r_) [] e st) ?_ hx3 ?_
  · intro i1 y h; unfold Bf at h; refine Au ⟨[(0, (Wq a_s)), (3, (.ptr 3 0)), (7, (Ys a_s)), (8, (.int .i64 i1)), (9, (.bool (decide ((i1 : Int) < (a_s.length : Int)))))], (Xq a_v), []⟩ hq ?_; refine Ae ?_; refine Ak (decide ((i1 : Int) < (a_s.length : Int))) (by kernel_rfl) (fun hb => ?_) (fun hb => ?_)
    · replace h := Ao hb h; clear hb; refine Ai ?_; refine Aa ?_; refine Ae ?_; refine Ah ?_; refine Au ⟨[(0, (Wq a_s)), (3, (.ptr 3 0)), (5, (.int .i64 i1)), (7, (Ys a_s)), (8, (.int .i64 i1))], (Xq a_v), []⟩ hq ?_; obtain ⟨hc2, h⟩ := Ab h; refine B6 [] [] ⟨[(0, (Wq a_s)), (3, (.ptr 3 0)), (5, (.int .i64 i1)), (7, (Ys a_s)), (8, (.int .i64 i1)), (16, (.bool (((a_v.1 : Int) == (a_s.getD (i1).toNat ((0 : Int), (0 : Int))).1) && (((a_v.2 : Int) == (a_s.getD (i1).toNat ((0 : Int), (0 : Int))).2) && true))))], (Xq a_v), []⟩ [(A5 i1 a_s.length)] hq ⟨hc2, trivial⟩ ?_; refine Ak (((a_v.1 : Int) == (a_s.getD (i1).toNat ((0 : Int), (0 : Int))).1) && (((a_v.2 : Int) == (a_s.getD (i1).toNat ((0 : Int), (0 : Int))).2) && true)) (by kernel_rfl) (fun hb => ?_) (fun hb => ?_)
      · replace h := Ao hb h; clear hb; refine Au ⟨[(4, (.int .i64 i1))], [], []⟩ hq ?_; refine Ar ?_; refine B1 ?_; refine A2 ?_; obtain rfl := OI h; exact ⟨(by intro hh; cases hh), rfl, ⟨.inl rfl, [], by kernel_rfl⟩⟩
      · replace h := Aw hb h; clear hb; refine Ai ?_; refine Am ?_; refine Aa ?_; refine Ll ⟨[(0, (Wq a_s)), (3, (.ptr 3 0)), (7, (Ys a_s)), (8, (.int .i64 (Bi (i1 + (1 : Int)))))], (Xq a_v), []⟩ hq ?_; obtain rfl := OI h; exact ⟨rfl, Le.refl _ _⟩
    · replace h := Aw hb h; clear hb; refine Bc ?_; refine A1 ?_; obtain rfl := OI h; exact ⟨(by intro hh; cases hh), rfl, Fx [] [] hq⟩
  · clear hx3; rcases x3 with _ | r5
    · rintro e st' ⟨rfl, hl4⟩; refine Ay ?_; refine Aa ?_; refine Af hl4 ?_; refine Au ⟨[(4, (.int .i64 (-1 : Int)))], [], []⟩ hq ?_; refine Ar ?_; obtain rfl := OI h; exact ⟨.inl rfl, [], by kernel_rfl⟩
    · rintro e st' ⟨rfl, hk⟩; refine B1 ?_; refine A2 ?_; obtain rfl := OI h; exact hk
def Cg (a_s : List ((Int × Int))) (a_v : (Int × Int)) : Option Bool :=
  ((Di a_s a_v).bind fun x1 => (some (decide (((0 : Int) : Int) ≤ x1))))
theorem G9 (a_s : List ((Int × Int))) (a_v : (Int × Int)) (r : Bool) (h : Cg a_s a_v = some r) : Spec Try.prog 49 [(AV.list 2 Ck ((0 : Int), (0 : Int)) a_s .none), (.agg (Ck a_v))] [] (.bool r) [] := by
  refine Ap (fn := Try.f49) Try.func49 rfl rfl (by kernel_rfl) (fun Γ hn hΓ => ?_); have hq : RgQ Try.prog Γ 9 [] := ⟨hn, mix, hΓ⟩; unfold Cg at h; refine Au ⟨[(0, (AV.list 2 Ck ((0 : Int), (0 : Int)) a_s .none)), (3, (.ptr 3 0))], [(3, .row 45 [(.int .i64 a_v.1), (.int .i64 a_v.2)])], []⟩ hq ?_; obtain ⟨x1, hx1, h⟩ := bind_some h; refine B6 [⟨[], [], (.int .i64 x1), [], []⟩] [] ⟨[(4, (.bool (decide (((0 : Int) : Int) ≤ x1))))], [], []⟩ [(Spec Try.prog 58 [(AV.list 2 Ck ((0 : Int), (0 : Int)) a_s .none), (.agg (Ck a_v))] [] (.int .i64 x1) [])] hq ⟨(H2 a_s a_v x1 hx1), trivial⟩ ?_; refine Ar ?_; obtain rfl := OI h; exact ⟨.inl rfl, [], by kernel_rfl⟩
def Ca (a_succ : List (List (Int))) (a_ways : List ((Int × Int))) (i2 : Int) : (Int × List (List (Int))) → Option (LR (Int × List (List (Int))) (List (List (Int)))) :=
  fun ((i6, l7) : (Int × List (List (Int)))) => (bif (decide ((i6 : Int) < ((a_succ.getD (i2).toNat []).length : Int))) then (Option.bind (α := List (List (Int))) (Ce (A5 i6 (a_succ.getD (i2).toNat []).length) ((Cg a_ways (i2, ((a_succ.getD (i2).toNat []).getD (i6).toNat (0 : Int)))).bind fun x11 => (bif (!x11) then (Ce (A5 i2 l7.length) (Ce (A5 i2 l7.length) (Ce ((l7.getD (i2).toNat []).length + ([((a_succ.getD (i2).toNat []).getD (i6).toNat (0 : Int))] : List (Int)).length ≤ room) (Ce (A5 i2 l7.length) (some ((l7.set (i2).toNat ((l7.getD (i2).toNat []) ++ ([((a_succ.getD (i2).toNat []).getD (i6).toNat (0 : Int))] : List (Int)))))))))) else (some (l7))))) (fun x16 => ((some (.next ((Bi (i6 + (1 : Int))), x16)))))) else (some (.done l7)))
def C0 (a_succ : List (List (Int))) (a_ways : List ((Int × Int))) : (Int × List (List (Int))) → Option (LR (Int × List (List (Int))) (List (List (Int)))) :=
  fun ((i2, l3) : (Int × List (List (Int)))) => (bif (decide ((i2 : Int) < (a_succ.length : Int))) then (Ce (A5 i2 a_succ.length) ((At (S := (Int × List (List (Int)))) (X := List (List (Int))) (Ca a_succ a_ways i2) ((0 : Int), l3)).bind (fun x18 => ((some (.next ((Bi (i2 + (1 : Int))), x18))))))) else (some (.done l3)))
def Ja (l7 : List (List (Int))) (i2 : Int) := (l7.getD (i2).toNat [])
def I9 (a_succ : List (List (Int))) : AV := (AV.list 1 eLI64 [] a_succ .none)
def Mq (a_succ : List (List (Int))) : AV := (.int .i64 (a_succ.length : Int))
def Io (a_ways : List ((Int × Int))) : AV := (AV.list 2 Ck ((0 : Int), (0 : Int)) a_ways .none)
def Vp (a_succ : List (List (Int))) (i2 : Int) : AV := (.int .i64 ((a_succ.getD (i2).toNat []).length : Int))
def Tf (a_succ : List (List (Int))) (i2 : Int) : AV := (AV.list 1 Ad (0 : Int) (a_succ.getD (i2).toNat []) .none)
def P4 (a_succ : List (List (Int))) := (List.replicate ((a_succ.length : Int)).toNat ([] : List (Int)))
def Q243 (a_succ : List (List (Int))) (i2 : Int) (i6 : Int) : AV := (.int .i64 ((a_succ.getD (i2).toNat []).getD (i6).toNat (0 : Int)))
def Q241 (l3 : List (List (Int))) : List (Nat × Own) := [(12, .arr 1 36 l3.length (Cq 1 Ad (0 : Int) l3 (Tag.fam 70012)))]
def Q242 (l7 : List (List (Int))) : List (Nat × Own) := [(12, .arr 1 36 l7.length (Cq 1 Ad (0 : Int) l7 (Tag.fam 70012)))]
def Kx (a_succ : List (List (Int))) (i2 : Int) (i6 : Int) := ([((a_succ.getD (i2).toNat []).getD (i6).toNat (0 : Int))] : List (Int))
def Q244 (a_ways : List ((Int × Int))) (l7 : List (List (Int))) (i2 : Int) (a_succ : List (List (Int))) (i6 : Int) : List (Nat × AV) := [(1, (Io a_ways)), (5, (.vsl 12 l7.length)), (6, (.int .i64 i2)), (13, (I9 a_succ)), (14, (Mq a_succ)), (15, (.int .i64 i2)), (20, (Tf a_succ i2)), (21, (Vp a_succ i2)), (22, (.int .i64 i6))]
def Fg (a_succ : List (List (Int))) (a_ways : List ((Int × Int))) : Option (List (List (Int))) :=
  (Ce (0 ≤ (a_succ.length : Int) ∧ (a_succ.length : Int) ≤ (a_succ.length : Int) ∧ (a_succ.length : Int) ≤ (room : Int)) ((At (S := (Int × List (List (Int)))) (X := List (List (Int))) (C0 a_succ a_ways) ((0 : Int), (List.replicate ((a_succ.length : Int)).toNat ([] : List (Int))))).bind (fun x20 => ((some x20)))))
theorem P8 (a_succ : List (List (Int))) (a_ways : List ((Int × Int))) (r : List (List (Int))) (h : Fg a_succ a_ways = some r) : Spec Try.prog 33 [(AV.list 1 eLI64 [] a_succ .none), (AV.list 2 Ck ((0 : Int), (0 : Int)) a_ways .none)] [] (AV.list 1 eLI64 [] r (.own 20000)) [(20000, .tok 1 36 r.length)] := by
  refine Ap (fn := Try.f33) Try.func33 rfl rfl (by kernel_rfl) (fun Γ hn hΓ => ?_); have hq : RgQ Try.prog Γ 45 [] := ⟨hn, mix, hΓ⟩; unfold Fg at h; refine B6 [] [(4, (AV.list 1 eLI64 [] ([] : List (List (Int))) .exact))] ⟨[(0, (I9 a_succ)), (1, (Io a_ways))], [], []⟩ [(AVle (.slice 0 0 (fun _ => []) .exact) (AV.list 1 eLI64 [] ([] : List (List (Int))) .exact))] hq ⟨D3, trivial⟩ ?_; obtain ⟨hc1, h⟩ := Ab h; refine B6 [] [] ⟨[(0, (I9 a_succ)), (1, (Io a_ways)), (5, (.vsl 12 ((a_succ.length : Int)).toNat))], [(12, .arr 1 36 (((a_succ.length : Int)).toNat) (fun i_ => AV.eraseAll (fun n_ => B4 n_ [12]) ((fun _ => [(.slice 0 0 (fun _ => []) .exact)]) i_)))], []⟩ [(0 ≤ (a_succ.length : Int) ∧ (a_succ.length : Int) ≤ (a_succ.length : Int) ∧ (a_succ.length : Int) ≤ (room : Int))] hq ⟨hc1, trivial⟩ ?_; refine Af (Le.trans (Cb (st' := ⟨[(0, (I9 a_succ)), (1, (Io a_ways)), (5, (.vsl 12 ((a_succ.length : Int)).toNat))], [(12, .arr 1 36 (((a_succ.length : Int)).toNat) (Cq 1 Ad (0 : Int) (P4 a_succ) (fun _ => .exact)))], []⟩) (TmpsLe.refl _) (.arr Xr .nil)) (Le.trans (Le.trans (Sl (r := 12) (b := 70012) Ad (0 : Int) (P4 a_succ) 3 rfl rfl (List.length_replicate ..).symm (fun h_ => absurd h_ (by decide))) (Bz (st' := ⟨[(0, (I9 a_succ)), (1, (Io a_ways)), (5, (.vsl 12 ((a_succ.length : Int)).toNat))], [(12, .arr 1 36 (((a_succ.length : Int)).toNat) (Cq 1 Ad (0 : Int) (P4 a_succ) (Tag.fam 70012)))], [(70012, ⟨1, 3, Cw (P4 a_succ)⟩)]⟩) (by kernel_rfl))) (Bz (congrArg (fun k_ : Nat => (⟨[(0, (I9 a_succ)), (1, (Io a_ways)), (5, (.vsl 12 k_))], [(12, .arr 1 36 k_ (Cq 1 Ad (0 : Int) (P4 a_succ) (Tag.fam 70012)))], [(70012, ⟨1, 3, Cw (P4 a_succ)⟩)]⟩ : St)) (show ((a_succ.length : Int)).toNat = (P4 a_succ).length from (List.length_replicate ..).symm))))) ?_; refine Ae ?_; refine Au ⟨[(1, (Io a_ways)), (5, (.vsl 12 (P4 a_succ).length)), (13, (I9 a_succ)), (14, (Mq a_succ)), (15, (.int .i64 (0 : Int)))], [(12, .arr 1 36 ((P4 a_succ).length) (Cq 1 Ad (0 : Int) (P4 a_succ) (Tag.fam 70012)))], [(70012, ⟨1, 3, Cw (P4 a_succ)⟩)]⟩ hq ?_; refine Ah ?_; refine Af (st' := (fun ((i2, l3) : (Int × List (List (Int)))) => (⟨[(1, (Io a_ways)), (5, (.vsl 12 l3.length)), (13, (I9 a_succ)), (14, (Mq a_succ)), (15, (.int .i64 i2))], (Q241 l3), [(70012, ⟨1, 3, Cw l3⟩)]⟩ : St)) ((0 : Int), (P4 a_succ))) (Le.refl _ _) ?_; obtain ⟨x20, hx20, h⟩ := bind_some h; refine Bb (fun ((i2, l3) : (Int × List (List (Int)))) => (⟨[(1, (Io a_ways)), (5, (.vsl 12 l3.length)), (13, (I9 a_succ)), (14, (Mq a_succ)), (15, (.int .i64 i2))], (Q241 l3), [(70012, ⟨1, 3, Cw l3⟩)]⟩ : St)) _ (fun (l4 : List (List (Int))) (e : Exit) (st : St) => e = (.exit 0) ∧ Le Γ st (⟨[(5, (.vsl 12 l4.length))], [(12, .arr 1 36 l4.length (Cq 1 Ad (0 : Int) l4 (Tag.fam 70012)))], [(70012, ⟨1, 3, Cw l4⟩)]⟩ : St)) ?_ hx20 ?_
  · rintro ⟨i2, l3⟩ y h; unfold C0 at h; refine Au ⟨[(1, (Io a_ways)), (5, (.vsl 12 l3.length)), (13, (I9 a_succ)), (14, (Mq a_succ)), (15, (.int .i64 i2)), (16, (.bool (decide ((i2 : Int) < (a_succ.length : Int)))))], (Q241 l3), [(70012, ⟨1, 3, Cw l3⟩)]⟩ hq ?_; refine Ae ?_; refine Ak (decide ((i2 : Int) < (a_succ.length : Int))) (by kernel_rfl) (fun hb => ?_) (fun hb => ?_)
    · replace h := Ao hb h; clear hb; refine Ai ?_; refine Aa ?_; refine Ae ?_; refine Ah ?_; obtain ⟨hc5, h⟩ := Ab h; refine B6 [] [] ⟨[(1, (Io a_ways)), (5, (.vsl 12 l3.length)), (6, (.int .i64 i2)), (7, (Tf a_succ i2)), (13, (I9 a_succ)), (14, (Mq a_succ)), (15, (.int .i64 i2))], (Q241 l3), [(70012, ⟨1, 3, Cw l3⟩)]⟩ [(A5 i2 a_succ.length)] hq ⟨hc5, trivial⟩ ?_; refine Au ⟨[(1, (Io a_ways)), (5, (.vsl 12 l3.length)), (6, (.int .i64 i2)), (13, (I9 a_succ)), (14, (Mq a_succ)), (15, (.int .i64 i2)), (20, (Tf a_succ i2)), (21, (Vp a_succ i2)), (22, (.int .i64 (0 : Int)))], (Q241 l3), [(70012, ⟨1, 3, Cw l3⟩)]⟩ hq ?_; refine Ah ?_; refine Af (st' := (fun ((i6, l7) : (Int × List (List (Int)))) => (⟨(Q244 a_ways l7 i2 a_succ i6), (Q242 l7), [(70012, ⟨1, 3, Cw l7⟩)]⟩ : St)) ((0 : Int), l3)) (Le.refl _ _) ?_; obtain ⟨x18, hx18, h⟩ := bind_some h; refine Bb (fun ((i6, l7) : (Int × List (List (Int)))) => (⟨(Q244 a_ways l7 i2 a_succ i6), (Q242 l7), [(70012, ⟨1, 3, Cw l7⟩)]⟩ : St)) _ (fun (l8 : List (List (Int))) (e : Exit) (st : St) => e = (.exit 2) ∧ Le Γ st (⟨[(1, (Io a_ways)), (5, (.vsl 12 l8.length)), (13, (I9 a_succ)), (14, (Mq a_succ)), (15, (.int .i64 i2))], [(12, .arr 1 36 l8.length (Cq 1 Ad (0 : Int) l8 (Tag.fam 70012)))], [(70012, ⟨1, 3, Cw l8⟩)]⟩ : St)) ?_ hx18 ?_
      · rintro ⟨i6, l7⟩ y h; unfold Ca at h; refine Au ⟨[(1, (Io a_ways)), (5, (.vsl 12 l7.length)), (6, (.int .i64 i2)), (13, (I9 a_succ)), (14, (Mq a_succ)), (15, (.int .i64 i2)), (20, (Tf a_succ i2)), (21, (Vp a_succ i2)), (22, (.int .i64 i6)), (23, (.bool (decide ((i6 : Int) < ((a_succ.getD (i2).toNat []).length : Int)))))], (Q242 l7), [(70012, ⟨1, 3, Cw l7⟩)]⟩ hq ?_; refine Ae ?_; refine Ak (decide ((i6 : Int) < ((a_succ.getD (i2).toNat []).length : Int))) (by kernel_rfl) (fun hb => ?_) (fun hb => ?_)
        · replace h := Ao hb h; clear hb; refine Ai ?_; refine Aa ?_; refine Ae ?_; obtain ⟨x16, hx16, h⟩ := bind_some h; refine Ey (fun (l9 : List (List (Int))) (e : Exit) (st : St) => e = .normal ∧ Le Γ st (⟨[(1, (Io a_ways)), (5, (.vsl 12 l9.length)), (6, (.int .i64 i2)), (13, (I9 a_succ)), (14, (Mq a_succ)), (15, (.int .i64 i2)), (20, (Tf a_succ i2)), (21, (Vp a_succ i2)), (22, (.int .i64 i6))], [(12, .arr 1 36 l9.length (Cq 1 Ad (0 : Int) l9 (Tag.fam 70012)))], [(70012, ⟨1, 3, Cw l9⟩)]⟩ : St)) hx16 ?_ ?_
          · clear h hx16; intro y h; refine Ah ?_; obtain ⟨hc10, h⟩ := Ab h; refine B6 [] [] ⟨[(1, (Io a_ways)), (5, (.vsl 12 l7.length)), (6, (.int .i64 i2)), (9, (Q243 a_succ i2 i6)), (13, (I9 a_succ)), (14, (Mq a_succ)), (15, (.int .i64 i2)), (20, (Tf a_succ i2)), (21, (Vp a_succ i2)), (22, (.int .i64 i6))], (Q242 l7), [(70012, ⟨1, 3, Cw l7⟩)]⟩ [(A5 i6 (a_succ.getD (i2).toNat []).length)] hq ⟨hc10, trivial⟩ ?_; obtain ⟨x11, hx11, h⟩ := bind_some h; refine B6 [⟨[], [], (.bool x11), [], []⟩] [] ⟨[(1, (Io a_ways)), (5, (.vsl 12 l7.length)), (6, (.int .i64 i2)), (9, (Q243 a_succ i2 i6)), (13, (I9 a_succ)), (14, (Mq a_succ)), (15, (.int .i64 i2)), (20, (Tf a_succ i2)), (21, (Vp a_succ i2)), (22, (.int .i64 i6)), (31, (.bool (!x11)))], (Q242 l7), [(70012, ⟨1, 3, Cw l7⟩)]⟩ [(Spec Try.prog 49 [(Io a_ways), (.agg [(.int .i64 i2), (Q243 a_succ i2 i6)])] [] (.bool x11) [])] hq ⟨(G9 a_ways (i2, ((a_succ.getD (i2).toNat []).getD (i6).toNat (0 : Int))) x11 hx11), trivial⟩ ?_; refine Ak (!x11) (by kernel_rfl) (fun hb => ?_) (fun hb => ?_)
            · replace h := Ao hb h; clear hb; obtain ⟨hc12, h⟩ := Ab h; obtain ⟨hc13, h⟩ := Ab h; obtain ⟨hc14, h⟩ := Ab h; obtain ⟨hc15, h⟩ := Ab h; refine Af (Le.trans (Vu (r := 12) (b := 70012) (k := 60012) Ad (0 : Int) l7 (i2).toNat 3 rfl rfl rfl rfl (D1 hc12) (by kernel_rfl) (.here .nil)) (Bz (st' := ⟨[(1, (Io a_ways)), (5, (.vsl 12 l7.length)), (6, (.int .i64 i2)), (9, (Q243 a_succ i2 i6)), (13, (I9 a_succ)), (14, (Mq a_succ)), (15, (.int .i64 i2)), (20, (Tf a_succ i2)), (21, (Vp a_succ i2)), (22, (.int .i64 i6)), (31, (.bool (!x11)))], [(12, .arr 1 36 l7.length (Cq 1 Ad (0 : Int) l7 (Dc 70012 (i2).toNat 60012))), (60012, .tok 1 3 ((Ja l7 i2).length))], [(70012, ⟨1, 3, Ju l7 (i2).toNat⟩)]⟩) (by kernel_rfl))) ?_; refine rg [] [(37, (AV.list 1 Ad (0 : Int) (Ja l7 i2) (.own 60012))), (39, (AV.list 1 Ad (0 : Int) (Kx a_succ i2 i6) .exact)), (40, (AV.list 1 Ad (0 : Int) ((Ja l7 i2) ++ (Kx a_succ i2 i6)) (.own 60012)))] ⟨(Q244 a_ways l7 i2 a_succ i6), [(12, .arr 1 36 l7.length (fun i_ => AV.eraseAll (fun n_ => B4 n_ [12, 60012, 70012]) ((E7 (Cq 1 Ad (0 : Int) l7 (Dc 70012 (i2).toNat 60012)) (i2).toNat 0 [(AV.list 1 Ad (0 : Int) ((Ja l7 i2) ++ (Kx a_succ i2 i6)) (.own 60012))]) i_))), (60012, .tok 1 3 (((Ja l7 i2) ++ (Kx a_succ i2 i6)).length))], [(70012, ⟨1, 3, Ju l7 (i2).toNat⟩)]⟩ [(A5 i2 l7.length), (l7.length = l7.length), (AVle (((Cq 1 Ad (0 : Int) l7 (Dc 70012 (i2).toNat 60012)) (i2).toNat).getD 0 .any) (AV.list 1 Ad (0 : Int) (Ja l7 i2) (.own 60012))), (AVle (.slice 1 1 (fun i => ([[(Q243 a_succ i2 i6)]] : List (List AV)).getD i []) .exact) (AV.list 1 Ad (0 : Int) (Kx a_succ i2 i6) .exact)), ((Ja l7 i2).length = (Ja l7 i2).length), ((Ja l7 i2).length + (Kx a_succ i2 i6).length ≤ room), (AVle (.slice 1 ((Ja l7 i2).length + (Kx a_succ i2 i6).length) (E0 (Ja l7 i2).length (fun i => Ad ((Ja l7 i2).getD i (0 : Int))) (fun i => Ad ((Kx a_succ i2 i6).getD i (0 : Int)))) (.own 60012)) (AV.list 1 Ad (0 : Int) ((Ja l7 i2) ++ (Kx a_succ i2 i6)) (.own 60012))), ((Ja l7 i2).length + (Kx a_succ i2 i6).length = ((Ja l7 i2) ++ (Kx a_succ i2 i6)).length), (A5 i2 l7.length), (l7.length = l7.length)] hq ⟨hc13, rfl, O0, (Fh rfl (fun i hi => E2 (e := Ad) (d := (0 : Int)) (Kx a_succ i2 i6) i hi)), rfl, hc14, Nn, (D8 _ _), hc15, rfl, trivial⟩ ?_; refine Am ?_; obtain rfl := OI h; exact ⟨rfl, Le.trans (Le.trans (Le.trans (Y3 (r := 12) (b := 70012) (k := 60012) Ad (0 : Int) l7 (i2).toNat ((Ja l7 i2) ++ (Kx a_succ i2 i6)) 3 rfl (Qw (D1 hc12) rfl rfl) rfl rfl rfl rfl (D1 hc12) (by kernel_rfl) (.here (.tok .nil)) (by rw [hΓ]; rfl)) (Bz (st' := ⟨(Q244 a_ways l7 i2 a_succ i6), [(12, .arr 1 36 l7.length (Cq 1 Ad (0 : Int) (l7.set (i2).toNat ((Ja l7 i2) ++ (Kx a_succ i2 i6))) (Tag.fam 70012)))], [(70012, ⟨1, 3, Cw (l7.set (i2).toNat ((Ja l7 i2) ++ (Kx a_succ i2 i6)))⟩)]⟩) (by kernel_rfl))) (Bz (congrArg (fun k_ : Nat => (⟨[(1, (Io a_ways)), (5, (.vsl 12 k_)), (6, (.int .i64 i2)), (13, (I9 a_succ)), (14, (Mq a_succ)), (15, (.int .i64 i2)), (20, (Tf a_succ i2)), (21, (Vp a_succ i2)), (22, (.int .i64 i6))], [(12, .arr 1 36 k_ (Cq 1 Ad (0 : Int) (l7.set (i2).toNat ((Ja l7 i2) ++ (Kx a_succ i2 i6))) (Tag.fam 70012)))], [(70012, ⟨1, 3, Cw (l7.set (i2).toNat ((Ja l7 i2) ++ (Kx a_succ i2 i6)))⟩)]⟩ : St)) (show l7.length = (l7.set (i2).toNat ((Ja l7 i2) ++ (Kx a_succ i2 i6))).length from (List.length_set ..).symm)))) (Le.refl _ _)⟩
            · replace h := Aw hb h; clear hb; refine Ai ?_; refine Am ?_; obtain rfl := OI h; exact ⟨rfl, Fx [1, 5, 6, 13, 14, 15, 20, 21, 22] [12, 70012] hq⟩
          · clear hx16; rintro e st' ⟨rfl, hl17⟩; refine Aa ?_; refine Af hl17 ?_; refine Ll ⟨[(1, (Io a_ways)), (5, (.vsl 12 x16.length)), (6, (.int .i64 i2)), (13, (I9 a_succ)), (14, (Mq a_succ)), (15, (.int .i64 i2)), (20, (Tf a_succ i2)), (21, (Vp a_succ i2)), (22, (.int .i64 (Bi (i6 + (1 : Int)))))], [(12, .arr 1 36 x16.length (Cq 1 Ad (0 : Int) x16 (Tag.fam 70012)))], [(70012, ⟨1, 3, Cw x16⟩)]⟩ hq ?_; obtain rfl := OI h; exact ⟨rfl, Le.refl _ _⟩
        · replace h := Aw hb h; clear hb; refine Bc ?_; refine A1 ?_; obtain rfl := OI h; exact ⟨(by intro hh; cases hh), rfl, Fx [1, 5, 13, 14, 15] [12, 70012] hq⟩
      · clear hx18; rintro e st' ⟨rfl, hl19⟩; refine Ay ?_; refine Am ?_; refine Aa ?_; refine Af hl19 ?_; refine Ll ⟨[(1, (Io a_ways)), (5, (.vsl 12 x18.length)), (13, (I9 a_succ)), (14, (Mq a_succ)), (15, (.int .i64 (Bi (i2 + (1 : Int)))))], [(12, .arr 1 36 x18.length (Cq 1 Ad (0 : Int) x18 (Tag.fam 70012)))], [(70012, ⟨1, 3, Cw x18⟩)]⟩ hq ?_; obtain rfl := OI h; exact ⟨rfl, Le.refl _ _⟩
    · replace h := Aw hb h; clear hb; refine Bc ?_; refine A1 ?_; obtain rfl := OI h; exact ⟨(by intro hh; cases hh), rfl, Fx [5] [12, 70012] hq⟩
  · clear hx20; rintro e st' ⟨rfl, hl21⟩; refine Ay ?_; refine Aa ?_; refine Af hl21 ?_; refine Au ⟨[(4, (.vsl 12 x20.length))], [(12, .arr 1 36 x20.length (Cq 1 Ad (0 : Int) x20 (Tag.fam 70012)))], [(70012, ⟨1, 3, Cw x20⟩)]⟩ hq ?_; refine Af (Le.trans (Fv (nm := 12) (sz := 1) (n := x20.length) (e := 36) (f := (Cq 1 Ad (0 : Int) x20 (Tag.fam 70012))) (g := (fun i => eLI64 (x20.getD i []))) rfl ⟨rfl, trivial⟩ (fun _ _ => rfl) (by rw [hΓ]; rfl)) (Fx (st' := ⟨[(4, (AV.list 1 eLI64 [] x20 (.own 12)))], [(12, .tok 1 36 x20.length)], []⟩) [4] [12] hq)) ?_; refine Ar ?_; obtain rfl := OI h; exact ⟨.inl rfl, [(12, 20000)], by kernel_rfl⟩
def Ex (a_to : Int) (a_p1 : List (Bool)) : Option (Bool × List (Bool)) :=
  (Ce (A5 a_to 64) (some ((a_p1.getD (a_to).toNat false), a_p1)))
theorem Oc (a_to : Int) (a_p1 : List (Bool)) (r : (Bool × List (Bool))) (h : Ex a_to a_p1 = some r) : Spec Try.prog 35 [(.int .i64 a_to), (.vpt 34001 64 0 0)] [(34001, .arr 1 53 64 (fun i => eB (a_p1.getD i false)))] (.bool r.1) [(34001, .arr 1 53 64 (fun i => eB (r.2.getD i false)))] := by
  refine Ap (fn := Try.f35) Try.func35 rfl rfl (by kernel_rfl) (fun Γ hn hΓ => ?_); have hq : RgQ Try.prog Γ 7 [(34001, .arr 1 53 64 (fun i => eB (a_p1.getD i false)))] := ⟨hn, mix, hΓ⟩; unfold Ex at h; refine Au ⟨[(0, (.int .i64 a_to)), (1, (.vpt 34001 64 0 0))], [(34001, .arr 1 53 64 (fun i => eB (a_p1.getD i false)))], []⟩ hq ?_; obtain ⟨hc1, h⟩ := Ab h; refine B6 [] [] ⟨[(3, (.bool (a_p1.getD (a_to).toNat false)))], [(34001, .arr 1 53 64 (fun i => eB (a_p1.getD i false)))], []⟩ [(A5 a_to 64), (64 = 64)] hq ⟨hc1, rfl, trivial⟩ ?_; refine Ar ?_; obtain rfl := OI h; exact ⟨.inl rfl, [(34001, 34001)], by kernel_rfl⟩
def Be (a_s : List (Int)) : (Int × List (Bool)) → Option (LR (Int × List (Bool)) (List (Bool) ⊕ (Int × List (Bool)))) :=
  fun ((i1, l2) : (Int × List (Bool))) => (bif (decide ((i1 : Int) < (a_s.length : Int))) then (Ce (A5 i1 a_s.length) ((Ex (a_s.getD (i1).toNat (0 : Int)) l2).bind fun x5 => (bif x5.1 then (some (.done (.inr (i1, x5.2)))) else (some (.next ((Bi (i1 + (1 : Int))), x5.2)))))) else (some (.done (.inl l2))))
def Aab : AV := (.clo 35 [] [(.vpt 38000 64 0 0)])
def Aaf (a_s : List (Int)) : AV := (AV.list 1 Ad (0 : Int) a_s .none)
def Q245 (a_s : List (Int)) (i1 : Int) (l2 : List (Bool)) := (⟨[(0, (Aaf a_s)), (1, Aab), (7, (.int .i64 (a_s.length : Int))), (8, (.int .i64 i1))], [(38000, .arr 1 53 64 (fun i => eB (l2.getD i false)))], []⟩ : St)
def De (a_s : List (Int)) (a_fc0 : List (Bool)) : Option (Int × List (Bool)) :=
  ((At (S := (Int × List (Bool))) (X := (List (Bool) ⊕ (Int × List (Bool)))) (Be a_s) ((0 : Int), a_fc0)).bind (fun x6 => (match x6 with | (.inl l3) => (some ((-1 : Int), l3)) | (.inr r8) => (some r8))))
theorem H3 (a_s : List (Int)) (a_fc0 : List (Bool)) (r : (Int × List (Bool))) (h : De a_s a_fc0 = some r) : Spec Try.prog 50 [(AV.list 1 Ad (0 : Int) a_s .none), (.clo 35 [] [(.vpt 38000 64 0 0)])] [(38000, .arr 1 53 64 (fun i => eB (a_fc0.getD i false)))] (.int .i64 r.1) [(38000, .arr 1 53 64 (fun i => eB (r.2.getD i false)))] := by
  refine Ap (fn := Try.f50) Try.func50 rfl rfl (by kernel_rfl) (fun Γ hn hΓ => ?_); have hq : RgQ Try.prog Γ 19 [(38000, .arr 1 53 64 (fun i => eB (a_fc0.getD i false)))] := ⟨hn, mix, hΓ⟩; unfold De at h; refine Au ⟨[(0, (Aaf a_s)), (1, Aab)], [(38000, .arr 1 53 64 (fun i => eB (a_fc0.getD i false)))], []⟩ hq ?_; refine Ae ?_; refine Au ⟨[(0, (Aaf a_s)), (1, Aab), (7, (.int .i64 (a_s.length : Int))), (8, (.int .i64 (0 : Int)))], [(38000, .arr 1 53 64 (fun i => eB (a_fc0.getD i false)))], []⟩ hq ?_; refine Ah ?_; refine Af (st' := (fun ((i1, l2) : (Int × List (Bool))) => (Q245 a_s i1 l2)) ((0 : Int), a_fc0)) (Le.refl _ _) ?_; obtain ⟨x6, hx6, h⟩ := bind_some h; refine Bb (fun ((i1, l2) : (Int × List (Bool))) => (Q245 a_s i1 l2)) _ (fun (x_ : (List (Bool) ⊕ (Int × List (Bool)))) (e : Exit) (st : St) => match x_ with | (.inl l3) => e = (.exit 0) ∧ Le Γ st (⟨[], [(38000, .arr 1 53 64 (fun i => eB (l3.getD i false)))], []⟩ : St) | (.inr r_) => e = .ret ∧ Mt Try.prog Try.f50.results.toList [(38000, .arr 1 53 64 (fun i => eB (a_fc0.getD i false)))] (.int .i64 r_.1) [(38000, .arr 1 53 64 (fun i => eB (r_.2.getD i false)))] e st) ?_ hx6 ?_
  · rintro ⟨i1, l2⟩ y h; unfold Be at h; refine Au ⟨[(0, (Aaf a_s)), (1, Aab), (7, (.int .i64 (a_s.length : Int))), (8, (.int .i64 i1)), (9, (.bool (decide ((i1 : Int) < (a_s.length : Int)))))], [(38000, .arr 1 53 64 (fun i => eB (l2.getD i false)))], []⟩ hq ?_; refine Ae ?_; refine Ak (decide ((i1 : Int) < (a_s.length : Int))) (by kernel_rfl) (fun hb => ?_) (fun hb => ?_)
    · replace h := Ao hb h; clear hb; refine Ai ?_; refine Aa ?_; refine Ae ?_; refine Ah ?_; refine Au ⟨[(0, (Aaf a_s)), (1, Aab), (5, (.int .i64 i1)), (7, (.int .i64 (a_s.length : Int))), (8, (.int .i64 i1))], [(38000, .arr 1 53 64 (fun i => eB (l2.getD i false)))], []⟩ hq ?_; obtain ⟨hc4, h⟩ := Ab h; obtain ⟨x5, hx5, h⟩ := bind_some h; refine B6 [⟨[(38000, 34001)], [], (.bool x5.1), [(34001, .arr 1 53 64 (fun i => eB (x5.2.getD i false)))], []⟩] [] ⟨[(0, (Aaf a_s)), (1, Aab), (5, (.int .i64 i1)), (7, (.int .i64 (a_s.length : Int))), (8, (.int .i64 i1)), (16, (.bool x5.1))], [(38000, .arr 1 53 64 (fun i => eB (x5.2.getD i false)))], []⟩ [(A5 i1 a_s.length), (Spec Try.prog 35 [(.int .i64 (a_s.getD (i1).toNat (0 : Int))), (.vpt 34001 64 0 0)] [(34001, .arr 1 53 64 (fun i => eB (l2.getD i false)))] (.bool x5.1) [(34001, .arr 1 53 64 (fun i => eB (x5.2.getD i false)))])] hq ⟨hc4, (Oc (a_s.getD (i1).toNat (0 : Int)) l2 x5 hx5), trivial⟩ ?_; refine Ak x5.1 (by kernel_rfl) (fun hb => ?_) (fun hb => ?_)
      · replace h := Ao hb h; clear hb; refine Au ⟨[(4, (.int .i64 i1))], [(38000, .arr 1 53 64 (fun i => eB (x5.2.getD i false)))], []⟩ hq ?_; refine Ar ?_; refine B1 ?_; refine A2 ?_; obtain rfl := OI h; exact ⟨(by intro hh; cases hh), rfl, ⟨.inl rfl, [(38000, 38000)], by kernel_rfl⟩⟩
      · replace h := Aw hb h; clear hb; refine Ai ?_; refine Am ?_; refine Aa ?_; refine Ll ⟨[(0, (Aaf a_s)), (1, Aab), (7, (.int .i64 (a_s.length : Int))), (8, (.int .i64 (Bi (i1 + (1 : Int)))))], [(38000, .arr 1 53 64 (fun i => eB (x5.2.getD i false)))], []⟩ hq ?_; obtain rfl := OI h; exact ⟨rfl, Le.refl _ _⟩
    · replace h := Aw hb h; clear hb; refine Bc ?_; refine A1 ?_; obtain rfl := OI h; exact ⟨(by intro hh; cases hh), rfl, Fx [] [38000] hq⟩
  · clear hx6; rcases x6 with l3 | r8
    · rintro e st' ⟨rfl, hl7⟩; refine Ay ?_; refine Aa ?_; refine Af hl7 ?_; refine Au ⟨[(4, (.int .i64 (-1 : Int)))], [(38000, .arr 1 53 64 (fun i => eB (l3.getD i false)))], []⟩ hq ?_; refine Ar ?_; obtain rfl := OI h; exact ⟨.inl rfl, [(38000, 38000)], by kernel_rfl⟩
    · rintro e st' ⟨rfl, hk⟩; refine B1 ?_; refine A2 ?_; obtain rfl := OI h; exact hk
def Cf (a_s : List (Int)) (a_fc0 : List (Bool)) : Option (Bool × List (Bool)) :=
  ((De a_s a_fc0).bind fun x1 => (some ((decide (((0 : Int) : Int) ≤ x1.1)), x1.2)))
theorem G2 (a_s : List (Int)) (a_fc0 : List (Bool)) (r : (Bool × List (Bool))) (h : Cf a_s a_fc0 = some r) : Spec Try.prog 34 [(AV.list 1 Ad (0 : Int) a_s .none), (.clo 35 [] [(.vpt 38000 64 0 0)])] [(38000, .arr 1 53 64 (fun i => eB (a_fc0.getD i false)))] (.bool r.1) [(38000, .arr 1 53 64 (fun i => eB (r.2.getD i false)))] := by
  refine Ap (fn := Try.f34) Try.func34 rfl rfl (by kernel_rfl) (fun Γ hn hΓ => ?_); have hq : RgQ Try.prog Γ 9 [(38000, .arr 1 53 64 (fun i => eB (a_fc0.getD i false)))] := ⟨hn, mix, hΓ⟩; unfold Cf at h; refine Au ⟨[(0, (AV.list 1 Ad (0 : Int) a_s .none)), (1, (.clo 35 [] [(.vpt 38000 64 0 0)]))], [(38000, .arr 1 53 64 (fun i => eB (a_fc0.getD i false)))], []⟩ hq ?_; obtain ⟨x1, hx1, h⟩ := bind_some h; refine B6 [⟨[(38000, 38000)], [], (.int .i64 x1.1), [(38000, .arr 1 53 64 (fun i => eB (x1.2.getD i false)))], []⟩] [] ⟨[(4, (.bool (decide (((0 : Int) : Int) ≤ x1.1))))], [(38000, .arr 1 53 64 (fun i => eB (x1.2.getD i false)))], []⟩ [(Spec Try.prog 50 [(AV.list 1 Ad (0 : Int) a_s .none), (.clo 35 [] [(.vpt 38000 64 0 0)])] [(38000, .arr 1 53 64 (fun i => eB (a_fc0.getD i false)))] (.int .i64 x1.1) [(38000, .arr 1 53 64 (fun i => eB (x1.2.getD i false)))])] hq ⟨(H3 a_s a_fc0 x1 hx1), trivial⟩ ?_; refine Ar ?_; obtain rfl := OI h; exact ⟨.inl rfl, [(38000, 38000)], by kernel_rfl⟩
def Cc (a_g : An) (x1 : List (Int)) : (Int × List (Bool)) → Option (LR (Int × List (Bool)) (Unit ⊕ Bool)) :=
  fun ((i2, l3) : (Int × List (Bool))) => (bif (decide ((i2 : Int) < (x1.length : Int))) then (Ce (A5 i2 x1.length) (Ce (A5 (x1.getD (i2).toNat (0 : Int)) 64) (Ce (A5 (x1.getD (i2).toNat (0 : Int)) a_g.Succ.length) ((Cf (a_g.Succ.getD ((x1.getD (i2).toNat (0 : Int))).toNat []) (Dp 64 false l3 ((x1.getD (i2).toNat (0 : Int))).toNat true)).bind fun x7 => (bif x7.1 then (some (.done (.inr false))) else (some (.next ((Bi (i2 + (1 : Int))), x7.2)))))))) else (some (.done (.inl ()))))
def U6 (x1 : List (Int)) (i2 : Int) := (x1.getD (i2).toNat (0 : Int))
def Ta (x1 : List (Int)) : AV := (AV.list 1 Ad (0 : Int) x1 (.own 8))
def R4 (a_g : An) : List AV := [(AV.list 1 eLI64 [] a_g.Succ .none), (AV.list 1 eLI64 [] a_g.Pred .none)]
def Q251 (a_g : An) (l3 : List (Bool)) (x1 : List (Int)) : List (Nat × Own) := [(1, .row 26 (R4 a_g)), (4, .arr 1 53 64 (fun i => eB (l3.getD i false))), (8, .tok 1 3 x1.length)]
def Q250 (x1 : List (Int)) (i2 : Int) : List (Nat × AV) := [(1, (.ptr 1 0)), (4, (.vpt 4 64 0 0)), (12, (Ta x1)), (13, (.int .i64 (x1.length : Int))), (14, (.int .i64 i2))]
def Q249 (x1 : List (Int)) (i2 : Int) : List (Nat × AV) := [(1, (.ptr 1 0)), (4, (.vpt 4 64 0 0)), (6, (.int .i64 (U6 x1 i2))), (12, (Ta x1)), (13, (.int .i64 (x1.length : Int))), (14, (.int .i64 i2))]
def Dj (a_g : An) : Option Bool :=
  ((C8 a_g (0 : Int)).bind fun x1 => (bif (((x1.length : Int) : Int) == (0 : Int)) then (some false) else ((At (S := (Int × List (Bool))) (X := (Unit ⊕ Bool)) (Cc a_g x1) ((0 : Int), (List.replicate 64 false))).bind (fun x8 => (match x8 with | (.inl _) => (some true) | (.inr r10) => (some r10))))))
theorem Gd (a_g : An) (r : Bool) (h : Dj a_g = some r) : Spec Try.prog 16 [(.agg (Ci a_g))] [] (.bool r) [] := by
  refine Ap (fn := Try.f16) Try.func16 rfl rfl (by kernel_rfl) (fun Γ hn hΓ => ?_); have hq : RgQ Try.prog Γ 28 [] := ⟨hn, mix, hΓ⟩; unfold Dj at h; refine Au ⟨[(1, (.ptr 1 0))], [(1, .row 26 (R4 a_g))], []⟩ hq ?_; obtain ⟨x1, hx1, h⟩ := bind_some h; refine B6 [⟨[], [(20000, 8)], (AV.list 1 Ad (0 : Int) x1 (.own 20000)), [(20000, .tok 1 3 x1.length)], []⟩] [] ⟨[(1, (.ptr 1 0)), (3, (Ta x1))], [(1, .row 26 (R4 a_g)), (8, .tok 1 3 x1.length)], []⟩ [(Spec Try.prog 20 [(.agg (Ci a_g)), (.int .i64 (0 : Int))] [] (AV.list 1 Ad (0 : Int) x1 (.own 20000)) [(20000, .tok 1 3 x1.length)])] hq ⟨(Il a_g (0 : Int) x1 hx1), trivial⟩ ?_; refine Ae ?_; refine Au ⟨[(1, (.ptr 1 0)), (3, (Ta x1)), (11, (.bool (((x1.length : Int) : Int) == (0 : Int))))], [(1, .row 26 (R4 a_g)), (8, .tok 1 3 x1.length)], []⟩ hq ?_; refine Ak (((x1.length : Int) : Int) == (0 : Int)) (by kernel_rfl) (fun hb => ?_) (fun hb => ?_)
  · replace h := Ao hb h; clear hb; refine Au ⟨[(2, (.bool false))], [], []⟩ hq ?_; refine Ar ?_; refine A2 ?_; obtain rfl := OI h; exact ⟨.inl rfl, [], by kernel_rfl⟩
  · replace h := Aw hb h; clear hb; refine Ai ?_; refine Aa ?_; refine B6 [] [(4, (.vpt 4 64 0 0))] ⟨[(1, (.ptr 1 0)), (3, (Ta x1)), (4, (.vpt 4 64 0 0))], [(1, .row 26 (R4 a_g)), (4, .arr 1 53 64 (fun i_ => AV.eraseAll (fun n_ => B4 n_ [1, 4, 8]) ((fun i => (((List.replicate 64 [(.bool false)]).flatten).drop (i * 1)).take 1) i_))), (8, .tok 1 3 x1.length)], []⟩ [] hq trivial ?_; refine Af (Cb (st' := ⟨[(1, (.ptr 1 0)), (3, (Ta x1)), (4, (.vpt 4 64 0 0))], [(1, .row 26 (R4 a_g)), (4, .arr 1 53 64 (fun i => eB ((List.replicate 64 false).getD i false))), (8, .tok 1 3 x1.length)], []⟩) (TmpsLe.refl _) (.same (.arr (H8 (e := eB) (d := false) (z := [(.bool false)]) rfl rfl rfl) (.same .nil)))) ?_; refine Ae ?_; refine Au ⟨[(1, (.ptr 1 0)), (4, (.vpt 4 64 0 0)), (12, (Ta x1)), (13, (.int .i64 (x1.length : Int))), (14, (.int .i64 (0 : Int)))], [(1, .row 26 (R4 a_g)), (4, .arr 1 53 64 (fun i => eB ((List.replicate 64 false).getD i false))), (8, .tok 1 3 x1.length)], []⟩ hq ?_; refine Ah ?_; refine Af (st' := (fun ((i2, l3) : (Int × List (Bool))) => (⟨(Q250 x1 i2), (Q251 a_g l3 x1), []⟩ : St)) ((0 : Int), (List.replicate 64 false))) (Le.refl _ _) ?_; obtain ⟨x8, hx8, h⟩ := bind_some h; refine Bb (fun ((i2, l3) : (Int × List (Bool))) => (⟨(Q250 x1 i2), (Q251 a_g l3 x1), []⟩ : St)) _ (fun (x_ : (Unit ⊕ Bool)) (e : Exit) (st : St) => match x_ with | (.inl _) => e = (.exit 0) ∧ Le Γ st (⟨[], [], []⟩ : St) | (.inr r_) => e = .ret ∧ Mt Try.prog Try.f16.results.toList [] (.bool r_) [] e st) ?_ hx8 ?_
    · rintro ⟨i2, l3⟩ y h; unfold Cc at h; refine Au ⟨[(1, (.ptr 1 0)), (4, (.vpt 4 64 0 0)), (12, (Ta x1)), (13, (.int .i64 (x1.length : Int))), (14, (.int .i64 i2)), (15, (.bool (decide ((i2 : Int) < (x1.length : Int)))))], (Q251 a_g l3 x1), []⟩ hq ?_; refine Ae ?_; refine Ak (decide ((i2 : Int) < (x1.length : Int))) (by kernel_rfl) (fun hb => ?_) (fun hb => ?_)
      · replace h := Ao hb h; clear hb; refine Ai ?_; refine Aa ?_; refine Ae ?_; refine Ah ?_; obtain ⟨hc4, h⟩ := Ab h; refine B6 [] [] ⟨(Q249 x1 i2), (Q251 a_g l3 x1), []⟩ [(A5 i2 x1.length)] hq ⟨hc4, trivial⟩ ?_; obtain ⟨hc5, h⟩ := Ab h; refine B6 [] [] ⟨(Q249 x1 i2), [(1, .row 26 (R4 a_g)), (4, .arr 1 53 64 (fun i_ => AV.eraseAll (fun n_ => B4 n_ [1, 4, 8]) ((E7 (fun i => eB (l3.getD i false)) ((U6 x1 i2)).toNat 0 [(.bool true)]) i_))), (8, .tok 1 3 x1.length)], []⟩ [(A5 (U6 x1 i2) 64), (64 = 64)] hq ⟨hc5, rfl, trivial⟩ ?_; refine Af (Cb (st' := ⟨(Q249 x1 i2), [(1, .row 26 (R4 a_g)), (4, .arr 1 53 64 (fun i => eB ((Dp 64 false l3 ((U6 x1 i2)).toNat true).getD i false))), (8, .tok 1 3 x1.length)], []⟩) (TmpsLe.refl _) (.same (.arr (Bd rfl (fun k_ hk_ => (congrArg (AV.eraseAll (fun n_ => B4 n_ [1, 4, 8])) ((Fb (fun _ _ => rfl) (D1 hc5) rfl) k_ hk_)).trans rfl)) (.same .nil)))) ?_; obtain ⟨hc6, h⟩ := Ab h; obtain ⟨x7, hx7, h⟩ := bind_some h; refine B6 [⟨[(4, 38000)], [], (.bool x7.1), [(38000, .arr 1 53 64 (fun i => eB (x7.2.getD i false)))], []⟩] [] ⟨[(1, (.ptr 1 0)), (4, (.vpt 4 64 0 0)), (12, (Ta x1)), (13, (.int .i64 (x1.length : Int))), (14, (.int .i64 i2)), (26, (.bool x7.1))], [(1, .row 26 (R4 a_g)), (4, .arr 1 53 64 (fun i => eB (x7.2.getD i false))), (8, .tok 1 3 x1.length)], []⟩ [(A5 (U6 x1 i2) a_g.Succ.length), (Spec Try.prog 34 [(AV.list 1 Ad (0 : Int) (a_g.Succ.getD ((U6 x1 i2)).toNat []) .none), (.clo 35 [] [(.vpt 38000 64 0 0)])] [(38000, .arr 1 53 64 (fun i => eB ((Dp 64 false l3 ((U6 x1 i2)).toNat true).getD i false)))] (.bool x7.1) [(38000, .arr 1 53 64 (fun i => eB (x7.2.getD i false)))])] hq ⟨hc6, (G2 (a_g.Succ.getD ((U6 x1 i2)).toNat []) (Dp 64 false l3 ((U6 x1 i2)).toNat true) x7 hx7), trivial⟩ ?_; refine Ak x7.1 (by kernel_rfl) (fun hb => ?_) (fun hb => ?_)
        · replace h := Ao hb h; clear hb; refine Au ⟨[(2, (.bool false))], [], []⟩ hq ?_; refine Ar ?_; refine B1 ?_; refine A2 ?_; obtain rfl := OI h; exact ⟨(by intro hh; cases hh), rfl, ⟨.inl rfl, [], by kernel_rfl⟩⟩
        · replace h := Aw hb h; clear hb; refine Ai ?_; refine Am ?_; refine Aa ?_; refine Ll ⟨[(1, (.ptr 1 0)), (4, (.vpt 4 64 0 0)), (12, (Ta x1)), (13, (.int .i64 (x1.length : Int))), (14, (.int .i64 (Bi (i2 + (1 : Int)))))], [(1, .row 26 (R4 a_g)), (4, .arr 1 53 64 (fun i => eB (x7.2.getD i false))), (8, .tok 1 3 x1.length)], []⟩ hq ?_; obtain rfl := OI h; exact ⟨rfl, Le.refl _ _⟩
      · replace h := Aw hb h; clear hb; refine Bc ?_; refine A1 ?_; obtain rfl := OI h; exact ⟨(by intro hh; cases hh), rfl, Fx [] [] hq⟩
    · clear hx8; rcases x8 with _ | r10
      · rintro e st' ⟨rfl, hl9⟩; refine Ay ?_; refine Aa ?_; refine Af hl9 ?_; refine Au ⟨[(2, (.bool true))], [], []⟩ hq ?_; refine Ar ?_; obtain rfl := OI h; exact ⟨.inl rfl, [], by kernel_rfl⟩
      · rintro e st' ⟨rfl, hk⟩; refine B1 ?_; refine A2 ?_; obtain rfl := OI h; exact hk
def Dt (a_g : An) : Option Bool :=
  ((Gk a_g).bind fun x1 => (bif (!x1) then (some false) else ((Dy a_g).bind fun x2 => ((Fg a_g.Succ x2).bind fun x3 => ((Em x3).bind fun x4 => ((Dj x4.1).bind fun x5 => (some x5)))))))
theorem I5 (a_g : An) (r : Bool) (h : Dt a_g = some r) : Spec Try.prog 13 [(.agg (Ci a_g))] [] (.bool r) [] := by
  refine Ap (fn := Try.f13) Try.func13 rfl rfl (by kernel_rfl) (fun Γ hn hΓ => ?_); have hq : RgQ Try.prog Γ 19 [] := ⟨hn, mix, hΓ⟩; unfold Dt at h; refine Au ⟨[(1, (.ptr 1 0))], [(1, .row 26 [(AV.list 1 eLI64 [] a_g.Succ .none), (AV.list 1 eLI64 [] a_g.Pred .none)])], []⟩ hq ?_; refine Ae ?_; obtain ⟨x1, hx1, h⟩ := bind_some h; refine B6 [⟨[], [], (.bool x1), [], []⟩] [] ⟨[(1, (.ptr 1 0)), (7, (.bool (!x1)))], [(1, .row 26 [(AV.list 1 eLI64 [] a_g.Succ .none), (AV.list 1 eLI64 [] a_g.Pred .none)])], []⟩ [(Spec Try.prog 32 [(.agg (Ci a_g))] [] (.bool x1) [])] hq ⟨(Oq a_g x1 hx1), trivial⟩ ?_; refine Ak (!x1) (by kernel_rfl) (fun hb => ?_) (fun hb => ?_)
  · replace h := Ao hb h; clear hb; refine Au ⟨[(2, (.bool false))], [], []⟩ hq ?_; refine Ar ?_; refine A2 ?_; obtain rfl := OI h; exact ⟨.inl rfl, [], by kernel_rfl⟩
  · replace h := Aw hb h; clear hb; refine Ai ?_; refine Aa ?_; obtain ⟨x2, hx2, h⟩ := bind_some h; obtain ⟨x3, hx3, h⟩ := bind_some h; obtain ⟨x4, hx4, h⟩ := bind_some h; refine B6 [⟨[], [(20000, 12)], (AV.list 2 Ck ((0 : Int), (0 : Int)) x2 (.own 20000)), [(20000, .tok 2 45 x2.length)], []⟩, ⟨[], [(20000, 13)], (AV.list 1 eLI64 [] x3 (.own 20000)), [(20000, .tok 1 36 x3.length)], []⟩, ⟨[], [], (.tuple [(.agg (Ci x4.1)), (.int .i64 x4.2)]), [], []⟩] [] ⟨[(3, (.ptr 3 0))], [(3, .row 26 [(AV.list 1 eLI64 [] x4.1.Succ .none), (AV.list 1 eLI64 [] x4.1.Pred .none)])], []⟩ [(Spec Try.prog 18 [(.agg (Ci a_g))] [] (AV.list 2 Ck ((0 : Int), (0 : Int)) x2 (.own 20000)) [(20000, .tok 2 45 x2.length)]), (Spec Try.prog 33 [(AV.list 1 eLI64 [] a_g.Succ .none), (AV.list 2 Ck ((0 : Int), (0 : Int)) x2 .none)] [] (AV.list 1 eLI64 [] x3 (.own 20000)) [(20000, .tok 1 36 x3.length)]), (Spec Try.prog 10 [(AV.list 1 eLI64 [] x3 .none)] [] (.tuple [(.agg (Ci x4.1)), (.int .i64 x4.2)]) [])] hq ⟨(Hg a_g x2 hx2), (P8 a_g.Succ x2 x3 hx3), (Jb x3 x4 hx4), trivial⟩ ?_; obtain ⟨x5, hx5, h⟩ := bind_some h; refine B6 [⟨[], [], (.bool x5), [], []⟩] [] ⟨[(2, (.bool x5))], [], []⟩ [(Spec Try.prog 16 [(.agg (Ci x4.1))] [] (.bool x5) [])] hq ⟨(Gd x4.1 x5 hx5), trivial⟩ ?_; refine Ar ?_; obtain rfl := OI h; exact ⟨.inl rfl, [], by kernel_rfl⟩
def Q260 (x8 : Int) := ((x8 : Int) == (1 : Int))
def Q261 (x9 : Int) := ((x9 : Int) == (0 : Int))
def Q264 (x1 : (An × Int)) := (((x1.2 : Int) == (0 : Int)) == true)
def Q265 := ([(1 : Int), (2 : Int)] : List (Int))
def Q262 : AV := (AV.list 1 Ad (0 : Int) ([(1 : Int)] : List (Int)) .exact)
def Z2 (x1 : (An × Int)) (x2 : List (A6)) := (bif (bif ((x1.2 : Int) == (0 : Int)) then (((x2.length : Int) : Int) == (1 : Int)) else false) then (((x2.getD ((0 : Int)).toNat (default : A6)).Head : Int) == (1 : Int)) else false)
def To (x1 : (An × Int)) (x2 : List (A6)) (x6 : Bool) (x3 : List ((Int × Int))) := (bif (bif (bif (Z2 x1 x2) then x6 else false) then (((x3.length : Int) : Int) == (1 : Int)) else false) then ((((x3.getD ((0 : Int)).toNat ((0 : Int), (0 : Int))).1 : Int) == (2 : Int)) && ((((x3.getD ((0 : Int)).toNat ((0 : Int), (0 : Int))).2 : Int) == (1 : Int)) && true)) else false)
def Q268 (x1 : (An × Int)) (x2 : List (A6)) (x6 : Bool) (x3 : List ((Int × Int))) (x8 : Int) := ((bif (To x1 x2 x6 x3) then (Q260 x8) else false) == true)
def Q263 (x1 : (An × Int)) : List AV := [(AV.list 1 eLI64 [] x1.1.Succ .none), (AV.list 1 eLI64 [] x1.1.Pred .none)]
def O5 (x1 : (An × Int)) (x2 : List (A6)) (x6 : Bool) (x3 : List ((Int × Int))) (x8 : Int) (x9 : Int) := (bif (bif (To x1 x2 x6 x3) then (Q260 x8) else false) then (Q261 x9) else false)
def S4 (x1 : (An × Int)) (x2 : List (A6)) := ((bif ((x1.2 : Int) == (0 : Int)) then (((x2.length : Int) : Int) == (1 : Int)) else false) == true)
def Q259 := ([([(1 : Int)] : List (Int)), ([(2 : Int), (3 : Int)] : List (Int)), ([(1 : Int)] : List (Int)), ([] : List Int)] : List (List (Int)))
def N5 (x1 : (An × Int)) (x2 : List (A6)) := ((Z2 x1 x2) == true)
def Q257 (x1 : (An × Int)) (x2 : List (A6)) (x6 : Bool) := ((bif (Z2 x1 x2) then x6 else false) == true)
def S9 (x1 : (An × Int)) (x2 : List (A6)) (x6 : Bool) (x3 : List ((Int × Int))) := ((bif (bif (Z2 x1 x2) then x6 else false) then (((x3.length : Int) : Int) == (1 : Int)) else false) == true)
def Dq  : Option Bool :=
  ((Em ([([(1 : Int)] : List (Int)), ([(2 : Int), (3 : Int)] : List (Int)), ([(1 : Int)] : List (Int)), ([] : List Int)] : List (List (Int)))).bind fun x1 => ((Fk x1.1).bind fun x2 => ((Dy x1.1).bind fun x3 => (Ce (((bif ((x1.2 : Int) == (0 : Int)) then (((x2.length : Int) : Int) == (1 : Int)) else false) == true) = true → (A5 (0 : Int) x2.length)) (Ce (((bif (bif ((x1.2 : Int) == (0 : Int)) then (((x2.length : Int) : Int) == (1 : Int)) else false) then (((x2.getD ((0 : Int)).toNat (default : A6)).Head : Int) == (1 : Int)) else false) == true) = true → (A5 (0 : Int) x2.length)) ((bif ((bif (bif ((x1.2 : Int) == (0 : Int)) then (((x2.length : Int) : Int) == (1 : Int)) else false) then (((x2.getD ((0 : Int)).toNat (default : A6)).Head : Int) == (1 : Int)) else false) == true) then Cs ((x2.getD ((0 : Int)).toNat (default : A6)).Body) ([(1 : Int), (2 : Int)] : List (Int)) else some false).bind fun x6 => (Ce (((bif (bif (bif (bif ((x1.2 : Int) == (0 : Int)) then (((x2.length : Int) : Int) == (1 : Int)) else false) then (((x2.getD ((0 : Int)).toNat (default : A6)).Head : Int) == (1 : Int)) else false) then x6 else false) then (((x3.length : Int) : Int) == (1 : Int)) else false) == true) = true → (A5 (0 : Int) x3.length)) ((bif ((bif (bif (bif (bif (bif ((x1.2 : Int) == (0 : Int)) then (((x2.length : Int) : Int) == (1 : Int)) else false) then (((x2.getD ((0 : Int)).toNat (default : A6)).Head : Int) == (1 : Int)) else false) then x6 else false) then (((x3.length : Int) : Int) == (1 : Int)) else false) then ((((x3.getD ((0 : Int)).toNat ((0 : Int), (0 : Int))).1 : Int) == (2 : Int)) && ((((x3.getD ((0 : Int)).toNat ((0 : Int), (0 : Int))).2 : Int) == (1 : Int)) && true)) else false) == true) then En x1.1 (2 : Int) else some (0 : Int)).bind fun x8 => ((bif ((bif (bif (bif (bif (bif (bif ((x1.2 : Int) == (0 : Int)) then (((x2.length : Int) : Int) == (1 : Int)) else false) then (((x2.getD ((0 : Int)).toNat (default : A6)).Head : Int) == (1 : Int)) else false) then x6 else false) then (((x3.length : Int) : Int) == (1 : Int)) else false) then ((((x3.getD ((0 : Int)).toNat ((0 : Int), (0 : Int))).1 : Int) == (2 : Int)) && ((((x3.getD ((0 : Int)).toNat ((0 : Int), (0 : Int))).2 : Int) == (1 : Int)) && true)) else false) then ((x8 : Int) == (1 : Int)) else false) == true) then En x1.1 (3 : Int) else some (0 : Int)).bind fun x9 => ((bif ((bif (bif (bif (bif (bif (bif (bif ((x1.2 : Int) == (0 : Int)) then (((x2.length : Int) : Int) == (1 : Int)) else false) then (((x2.getD ((0 : Int)).toNat (default : A6)).Head : Int) == (1 : Int)) else false) then x6 else false) then (((x3.length : Int) : Int) == (1 : Int)) else false) then ((((x3.getD ((0 : Int)).toNat ((0 : Int), (0 : Int))).1 : Int) == (2 : Int)) && ((((x3.getD ((0 : Int)).toNat ((0 : Int), (0 : Int))).2 : Int) == (1 : Int)) && true)) else false) then ((x8 : Int) == (1 : Int)) else false) then ((x9 : Int) == (0 : Int)) else false) == true) then Dt x1.1 else some false).bind fun x10 => ((bif ((bif (bif (bif (bif (bif (bif (bif (bif ((x1.2 : Int) == (0 : Int)) then (((x2.length : Int) : Int) == (1 : Int)) else false) then (((x2.getD ((0 : Int)).toNat (default : A6)).Head : Int) == (1 : Int)) else false) then x6 else false) then (((x3.length : Int) : Int) == (1 : Int)) else false) then ((((x3.getD ((0 : Int)).toNat ((0 : Int), (0 : Int))).1 : Int) == (2 : Int)) && ((((x3.getD ((0 : Int)).toNat ((0 : Int), (0 : Int))).2 : Int) == (1 : Int)) && true)) else false) then ((x8 : Int) == (1 : Int)) else false) then ((x9 : Int) == (0 : Int)) else false) then x10 else false) == true) then Dj x1.1 else some false).bind fun x11 => (some (bif (bif (bif (bif (bif (bif (bif (bif (bif ((x1.2 : Int) == (0 : Int)) then (((x2.length : Int) : Int) == (1 : Int)) else false) then (((x2.getD ((0 : Int)).toNat (default : A6)).Head : Int) == (1 : Int)) else false) then x6 else false) then (((x3.length : Int) : Int) == (1 : Int)) else false) then ((((x3.getD ((0 : Int)).toNat ((0 : Int), (0 : Int))).1 : Int) == (2 : Int)) && ((((x3.getD ((0 : Int)).toNat ((0 : Int), (0 : Int))).2 : Int) == (1 : Int)) && true)) else false) then ((x8 : Int) == (1 : Int)) else false) then ((x9 : Int) == (0 : Int)) else false) then x10 else false) then (!x11) else false)))))))))))))
theorem Jz  (r : Bool) (h : Dq = some r) : Spec Try.prog 8 [] [] (.bool r) [] := by
  refine Ap (fn := Try.f8) Try.func8 rfl rfl (by kernel_rfl) (fun Γ hn hΓ => ?_); have hq : RgQ Try.prog Γ 70 [] := ⟨hn, mix, hΓ⟩; unfold Dq at h; refine Au ⟨[], [], []⟩ hq ?_; obtain ⟨x1, hx1, h⟩ := bind_some h; refine B6 [⟨[], [], (.tuple [(.agg (Ci x1.1)), (.int .i64 x1.2)]), [], []⟩] [(6, Q262), (7, (AV.list 1 Ad (0 : Int) ([(2 : Int), (3 : Int)] : List (Int)) .exact)), (8, Q262), (9, (AV.list 1 eLI64 [] Q259 .exact))] ⟨[(1, (.ptr 1 0)), (2, (.int .i64 x1.2))], [(1, .row 26 (Q263 x1))], []⟩ [(AVle (.slice 1 1 (fun i => ([[(.int .i64 (1 : Int))]] : List (List AV)).getD i []) .exact) Q262), (AVle (.slice 1 2 (fun i => ([[(.int .i64 (2 : Int))], [(.int .i64 (3 : Int))]] : List (List AV)).getD i []) .exact) (AV.list 1 Ad (0 : Int) ([(2 : Int), (3 : Int)] : List (Int)) .exact)), (AVle (.slice 1 1 (fun i => ([[(.int .i64 (1 : Int))]] : List (List AV)).getD i []) .exact) Q262), (AVle (.slice 1 4 (fun i => ([[(AV.list 1 Ad (0 : Int) ([(1 : Int)] : List (Int)) .none)], [(AV.list 1 Ad (0 : Int) ([(2 : Int), (3 : Int)] : List (Int)) .none)], [(AV.list 1 Ad (0 : Int) ([(1 : Int)] : List (Int)) .none)], [(.slice 0 0 (fun _ => []) .none)]] : List (List AV)).getD i []) .exact) (AV.list 1 eLI64 [] Q259 .exact)), (Spec Try.prog 10 [(AV.list 1 eLI64 [] Q259 .none)] [] (.tuple [(.agg (Ci x1.1)), (.int .i64 x1.2)]) [])] hq ⟨(Fh rfl (fun i hi => E2 (e := Ad) (d := (0 : Int)) ([(1 : Int)] : List (Int)) i hi)), (Fh rfl (fun i hi => E2 (e := Ad) (d := (0 : Int)) ([(2 : Int), (3 : Int)] : List (Int)) i hi)), (Fh rfl (fun i hi => E2 (e := Ad) (d := (0 : Int)) ([(1 : Int)] : List (Int)) i hi)), (av_litL (e := eLI64) (d := []) rfl (Oi (.cons (AVle.refl _) .nil) (Oi (.cons (AVle.refl _) .nil) (Oi (.cons (AVle.refl _) .nil) (Oi (.cons av_nil0 .nil) (lit_nil rfl))))) (fun _ => rfl)), (Jb Q259 x1 hx1), trivial⟩ ?_; obtain ⟨x2, hx2, h⟩ := bind_some h; refine B6 [⟨[], [(20000, 14)], (AV.list 2 D2 (default : A6) x2 (.own 20000)), [(20000, .tok 2 38 x2.length)], []⟩] [] ⟨[(1, (.ptr 1 0)), (2, (.int .i64 x1.2)), (3, (AV.list 2 D2 (default : A6) x2 (.own 14)))], [(1, .row 26 (Q263 x1)), (14, .tok 2 38 x2.length)], []⟩ [(Spec Try.prog 12 [(.agg (Ci x1.1))] [] (AV.list 2 D2 (default : A6) x2 (.own 20000)) [(20000, .tok 2 38 x2.length)])] hq ⟨(Ld x1.1 x2 hx2), trivial⟩ ?_; obtain ⟨x3, hx3, h⟩ := bind_some h; refine B6 [⟨[], [(20000, 16)], (AV.list 2 Ck ((0 : Int), (0 : Int)) x3 (.own 20000)), [(20000, .tok 2 45 x3.length)], []⟩] [] ⟨[(1, (.ptr 1 0)), (2, (.int .i64 x1.2)), (3, (AV.list 2 D2 (default : A6) x2 (.own 14))), (4, (AV.list 2 Ck ((0 : Int), (0 : Int)) x3 (.own 16)))], [(1, .row 26 (Q263 x1)), (14, .tok 2 38 x2.length), (16, .tok 2 45 x3.length)], []⟩ [(Spec Try.prog 18 [(.agg (Ci x1.1))] [] (AV.list 2 Ck ((0 : Int), (0 : Int)) x3 (.own 20000)) [(20000, .tok 2 45 x3.length)])] hq ⟨(Hg x1.1 x3 hx3), trivial⟩ ?_; obtain ⟨hc4, h⟩ := Ab h; obtain ⟨hc5, h⟩ := Ab h; obtain ⟨x6, hx6, h⟩ := bind_some h; obtain ⟨hc7, h⟩ := Ab h; obtain ⟨x8, hx8, h⟩ := bind_some h; obtain ⟨x9, hx9, h⟩ := bind_some h; obtain ⟨x10, hx10, h⟩ := bind_some h; obtain ⟨x11, hx11, h⟩ := bind_some h; refine B6 [⟨[], [], (.bool x6), [], []⟩, ⟨[], [], (.int .i64 x8), [], []⟩, ⟨[], [], (.int .i64 x9), [], []⟩, ⟨[], [], (.bool x10), [], []⟩, ⟨[], [], (.bool x11), [], []⟩] [(36, (AV.list 1 Ad (0 : Int) Q265 .exact))] ⟨[(0, (.bool (bif (bif (O5 x1 x2 x6 x3 x8 x9) then x10 else false) then (!x11) else false)))], [], []⟩ [((Q264 x1) = true → (Q264 x1) = true), ((Q264 x1) = true → (Q264 x1) = true), (((x1.2 : Int) == (0 : Int)) = true → (Q264 x1) = true), ((S4 x1 x2) = true → (S4 x1 x2) = true), ((S4 x1 x2) = true → (A5 (0 : Int) x2.length)), ((S4 x1 x2) = true → (S4 x1 x2) = true), ((S4 x1 x2) = true → (S4 x1 x2) = true), ((S4 x1 x2) = true → (S4 x1 x2) = true), ((bif ((x1.2 : Int) == (0 : Int)) then (((x2.length : Int) : Int) == (1 : Int)) else false) = true → (S4 x1 x2) = true), ((N5 x1 x2) = true → (N5 x1 x2) = true), ((N5 x1 x2) = true → (A5 (0 : Int) x2.length)), ((N5 x1 x2) = true → (N5 x1 x2) = true), ((N5 x1 x2) = true → (N5 x1 x2) = true), ((N5 x1 x2) = true → (AVle (.slice 1 2 (fun i => ([[(.int .i64 (1 : Int))], [(.int .i64 (2 : Int))]] : List (List AV)).getD i []) .exact) (AV.list 1 Ad (0 : Int) Q265 .exact))), ((N5 x1 x2) = true → (N5 x1 x2) = true), ((N5 x1 x2) = true → (N5 x1 x2) = true), ((N5 x1 x2) = true → (Spec Try.prog 21 [(AV.list 1 Ad (0 : Int) (x2.getD ((0 : Int)).toNat (default : A6)).Body .none), (AV.list 1 Ad (0 : Int) Q265 .none)] [] (.bool x6) [])), ((Z2 x1 x2) = true → (N5 x1 x2) = true), ((Q257 x1 x2 x6) = true → (Q257 x1 x2 x6) = true), ((Q257 x1 x2 x6) = true → (Q257 x1 x2 x6) = true), ((bif (Z2 x1 x2) then x6 else false) = true → (Q257 x1 x2 x6) = true), ((S9 x1 x2 x6 x3) = true → (S9 x1 x2 x6 x3) = true), ((S9 x1 x2 x6 x3) = true → (A5 (0 : Int) x3.length)), ((S9 x1 x2 x6 x3) = true → (S9 x1 x2 x6 x3) = true), ((S9 x1 x2 x6 x3) = true → (S9 x1 x2 x6 x3) = true), ((S9 x1 x2 x6 x3) = true → (S9 x1 x2 x6 x3) = true), ((bif (bif (Z2 x1 x2) then x6 else false) then (((x3.length : Int) : Int) == (1 : Int)) else false) = true → (S9 x1 x2 x6 x3) = true), (((To x1 x2 x6 x3) == true) = true → ((To x1 x2 x6 x3) == true) = true), (((To x1 x2 x6 x3) == true) = true → (Spec Try.prog 19 [(.agg (Ci x1.1)), (.int .i64 (2 : Int))] [] (.int .i64 x8) [])), (((To x1 x2 x6 x3) == true) = true → ((To x1 x2 x6 x3) == true) = true), ((To x1 x2 x6 x3) = true → ((To x1 x2 x6 x3) == true) = true), ((Q268 x1 x2 x6 x3 x8) = true → (Q268 x1 x2 x6 x3 x8) = true), ((Q268 x1 x2 x6 x3 x8) = true → (Spec Try.prog 19 [(.agg (Ci x1.1)), (.int .i64 (3 : Int))] [] (.int .i64 x9) [])), ((Q268 x1 x2 x6 x3 x8) = true → (Q268 x1 x2 x6 x3 x8) = true), ((bif (To x1 x2 x6 x3) then (Q260 x8) else false) = true → (Q268 x1 x2 x6 x3 x8) = true), (((O5 x1 x2 x6 x3 x8 x9) == true) = true → ((O5 x1 x2 x6 x3 x8 x9) == true) = true), (((O5 x1 x2 x6 x3 x8 x9) == true) = true → (Spec Try.prog 13 [(.agg (Ci x1.1))] [] (.bool x10) [])), ((O5 x1 x2 x6 x3 x8 x9) = true → ((O5 x1 x2 x6 x3 x8 x9) == true) = true), (((bif (O5 x1 x2 x6 x3 x8 x9) then x10 else false) == true) = true → ((bif (O5 x1 x2 x6 x3 x8 x9) then x10 else false) == true) = true), (((bif (O5 x1 x2 x6 x3 x8 x9) then x10 else false) == true) = true → (Spec Try.prog 16 [(.agg (Ci x1.1))] [] (.bool x11) [])), (((bif (O5 x1 x2 x6 x3 x8 x9) then x10 else false) == true) = true → ((bif (O5 x1 x2 x6 x3 x8 x9) then x10 else false) == true) = true), ((bif (O5 x1 x2 x6 x3 x8 x9) then x10 else false) = true → ((bif (O5 x1 x2 x6 x3 x8 x9) then x10 else false) == true) = true)] hq ⟨(fun hg => hg), (fun hg => hg), gT, (fun hg => hg), (fun hg => (hc4 hg)), (fun hg => hg), (fun hg => hg), (fun hg => hg), gT, (fun hg => hg), (fun hg => (hc5 hg)), (fun hg => hg), (fun hg => hg), (fun hg => (Fh rfl (fun i hi => E2 (e := Ad) (d := (0 : Int)) Q265 i hi))), (fun hg => hg), (fun hg => hg), (fun hg => (Ky ((x2.getD ((0 : Int)).toNat (default : A6)).Body) Q265 x6 (Ao hg hx6))), gT, (fun hg => hg), (fun hg => hg), gT, (fun hg => hg), (fun hg => (hc7 hg)), (fun hg => hg), (fun hg => hg), (fun hg => hg), gT, (fun hg => hg), (fun hg => (Jf x1.1 (2 : Int) x8 (Ao hg hx8))), (fun hg => hg), gT, (fun hg => hg), (fun hg => (Jf x1.1 (3 : Int) x9 (Ao hg hx9))), (fun hg => hg), gT, (fun hg => hg), (fun hg => (I5 x1.1 x10 (Ao hg hx10))), gT, (fun hg => hg), (fun hg => (Gd x1.1 x11 (Ao hg hx11))), (fun hg => hg), gT, trivial⟩ ?_; refine Ar ?_; obtain rfl := OI h; exact ⟨.inl rfl, [], by kernel_rfl⟩
def Bg (a_succ : List (List (Int))) : Int → Option (LR Int (Unit ⊕ Bool)) :=
  fun (i1 : Int) => (bif (decide ((i1 : Int) < (a_succ.length : Int))) then (Ce (A5 i1 a_succ.length) (bif (bif (decide (((100 : Int) : Int) < ((a_succ.getD (i1).toNat []).length : Int))) then true else (decide (((100 : Int) : Int) < i1))) then (some (.done (.inr false))) else (some (.next (Bi (i1 + (1 : Int))))))) else (some (.done (.inl ()))))
def Zt (a_succ : List (List (Int))) : AV := (AV.list 1 eLI64 [] a_succ .none)
def Q269 (a_succ : List (List (Int))) (i1 : Int) := (decide (((100 : Int) : Int) < ((a_succ.getD (i1).toNat []).length : Int)))
def Dr (a_succ : List (List (Int))) : Option Bool :=
  ((At (S := Int) (X := (Unit ⊕ Bool)) (Bg a_succ) (0 : Int)).bind (fun x3 => (match x3 with | (.inl _) => (some true) | (.inr r5) => (some r5))))
theorem Jy (a_succ : List (List (Int))) (r : Bool) (h : Dr a_succ = some r) : Spec Try.prog 9 [(AV.list 1 eLI64 [] a_succ .none)] [] (.bool r) [] := by
  refine Ap (fn := Try.f9) Try.func9 rfl rfl (by kernel_rfl) (fun Γ hn hΓ => ?_); have hq : RgQ Try.prog Γ 20 [] := ⟨hn, mix, hΓ⟩; unfold Dr at h; refine Au ⟨[(0, (Zt a_succ))], [], []⟩ hq ?_; refine Ae ?_; refine Au ⟨[(0, (Zt a_succ)), (3, (.int .i64 (0 : Int)))], [], []⟩ hq ?_; refine Ah ?_; refine Af (st' := (fun (i1 : Int) => (⟨[(0, (Zt a_succ)), (3, (.int .i64 i1))], [], []⟩ : St)) (0 : Int)) (Le.refl _ _) ?_; obtain ⟨x3, hx3, h⟩ := bind_some h; refine Bb (fun (i1 : Int) => (⟨[(0, (Zt a_succ)), (3, (.int .i64 i1))], [], []⟩ : St)) _ (fun (x_ : (Unit ⊕ Bool)) (e : Exit) (st : St) => match x_ with | (.inl _) => e = (.exit 0) ∧ Le Γ st (⟨[], [], []⟩ : St) | (.inr r_) => e = .ret ∧ Mt Try.prog Try.f9.results.toList [] (.bool r_) [] e st) ?_ hx3 ?_
  · intro i1 y h; unfold Bg at h; refine Ae ?_; refine Au ⟨[(0, (Zt a_succ)), (3, (.int .i64 i1)), (7, (.bool (decide ((i1 : Int) < (a_succ.length : Int)))))], [], []⟩ hq ?_; refine Ak (decide ((i1 : Int) < (a_succ.length : Int))) (by kernel_rfl) (fun hb => ?_) (fun hb => ?_)
    · replace h := Ao hb h; clear hb; refine Ai ?_; refine Aa ?_; refine Ae ?_; refine Ah ?_; obtain ⟨hc2, h⟩ := Ab h; refine B6 [] [] ⟨[(0, (Zt a_succ)), (3, (.int .i64 i1)), (19, (.bool (bif (Q269 a_succ i1) then true else (decide (((100 : Int) : Int) < i1)))))], [], []⟩ [(A5 i1 a_succ.length), (((Q269 a_succ i1) == false) = true → ((Q269 a_succ i1) == false) = true), ((Q269 a_succ i1) = false → ((Q269 a_succ i1) == false) = true)] hq ⟨hc2, (fun hg => hg), gF, trivial⟩ ?_; refine Ak (bif (Q269 a_succ i1) then true else (decide (((100 : Int) : Int) < i1))) (by kernel_rfl) (fun hb => ?_) (fun hb => ?_)
      · replace h := Ao hb h; clear hb; refine Au ⟨[(2, (.bool false))], [], []⟩ hq ?_; refine Ar ?_; refine B1 ?_; refine A2 ?_; obtain rfl := OI h; exact ⟨(by intro hh; cases hh), rfl, ⟨.inl rfl, [], by kernel_rfl⟩⟩
      · replace h := Aw hb h; clear hb; refine Ai ?_; refine Am ?_; refine Aa ?_; refine Ll ⟨[(0, (Zt a_succ)), (3, (.int .i64 (Bi (i1 + (1 : Int)))))], [], []⟩ hq ?_; obtain rfl := OI h; exact ⟨rfl, Le.refl _ _⟩
    · replace h := Aw hb h; clear hb; refine Bc ?_; refine A1 ?_; obtain rfl := OI h; exact ⟨(by intro hh; cases hh), rfl, Fx [] [] hq⟩
  · clear hx3; rcases x3 with _ | r5
    · rintro e st' ⟨rfl, hl4⟩; refine Ay ?_; refine Aa ?_; refine Af hl4 ?_; refine Au ⟨[(2, (.bool true))], [], []⟩ hq ?_; refine Ar ?_; obtain rfl := OI h; exact ⟨.inl rfl, [], by kernel_rfl⟩
    · rintro e st' ⟨rfl, hk⟩; refine B1 ?_; refine A2 ?_; obtain rfl := OI h; exact hk
def Bl (a_g : An) (a_p2 : Int) (i6 : Int) : (Int × List (Bool)) → Option (LR (Int × List (Bool)) (List (Bool))) :=
  fun ((i9, l10) : (Int × List (Bool))) => (Ce (A5 i6 l10.length) (Ce (((l10.getD (i6).toNat false) == true) = true → (A5 i6 a_g.Succ.length)) (bif (bif (l10.getD (i6).toNat false) then (decide ((i9 : Int) < ((a_g.Succ.getD (i6).toNat []).length : Int))) else false) then (Option.bind (α := List (Bool)) (Ce (A5 i6 a_g.Succ.length) (Ce (A5 i9 (a_g.Succ.getD (i6).toNat []).length) (bif ((((a_g.Succ.getD (i6).toNat []).getD (i9).toNat (0 : Int)) : Int) != a_p2) then (Ce (A5 i6 a_g.Succ.length) (Ce (A5 i9 (a_g.Succ.getD (i6).toNat []).length) (Ce (A5 ((a_g.Succ.getD (i6).toNat []).getD (i9).toNat (0 : Int)) l10.length) (some ((l10.set (((a_g.Succ.getD (i6).toNat []).getD (i9).toNat (0 : Int))).toNat true)))))) else (some (l10))))) (fun x20 => ((some (.next ((Bi (i9 + (1 : Int))), x20)))))) else (some (.done l10)))))
def Bt (a_g : An) (a_p2 : Int) : (Int × List (Bool)) → Option (LR (Int × List (Bool)) (List (Bool))) :=
  fun ((i6, l7) : (Int × List (Bool))) => (bif (decide ((i6 : Int) < (l7.length : Int))) then ((At (S := (Int × List (Bool))) (X := List (Bool)) (Bl a_g a_p2 i6) ((0 : Int), l7)).bind (fun x22 => ((some (.next ((Bi (i6 + (1 : Int))), x22)))))) else (some (.done l7)))
def Bu (a_g : An) (a_p2 : Int) : (Int × List (Bool)) → Option (LR (Int × List (Bool)) (List (Bool))) :=
  fun ((i3, l4) : (Int × List (Bool))) => (bif (decide ((i3 : Int) < (l4.length : Int))) then ((At (S := (Int × List (Bool))) (X := List (Bool)) (Bt a_g a_p2) ((0 : Int), l4)).bind (fun x24 => ((some (.next ((Bi (i3 + (1 : Int))), x24)))))) else (some (.done l4)))
def G3 (a_p2 : Int) : AV := (.int .i64 a_p2)
def Th (a_g : An) := (a_g.Succ.length : Int)
def K0 (a_g : An) := (List.replicate ((Th a_g)).toNat false)
def Z9 (a_g : An) (a_p1 : Int) := ((K0 a_g).set (a_p1).toNat true)
def Mm (l10 : List (Bool)) (i6 : Int) := ((l10.getD (i6).toNat false) == true)
def Aae (a_g : An) := (fun i => eB ((K0 a_g).getD i false))
def Z8 (a_g : An) (i6 : Int) (i9 : Int) := ((a_g.Succ.getD (i6).toNat []).getD (i9).toNat (0 : Int))
def Jg (a_g : An) : List AV := [(AV.list 1 eLI64 [] a_g.Succ .none), (AV.list 1 eLI64 [] a_g.Pred .none)]
def Q304 (a_g : An) (l4 : List (Bool)) : List (Nat × Own) := [(3, .row 26 (Jg a_g)), (14, .arr 1 4 l4.length (fun i => eB (l4.getD i false)))]
def Q305 (a_g : An) (l7 : List (Bool)) : List (Nat × Own) := [(3, .row 26 (Jg a_g)), (14, .arr 1 4 l7.length (fun i => eB (l7.getD i false)))]
def Q303 (a_g : An) (l10 : List (Bool)) : List (Nat × Own) := [(3, .row 26 (Jg a_g)), (14, .arr 1 4 l10.length (fun i => eB (l10.getD i false)))]
def Q301 (a_p2 : Int) (l10 : List (Bool)) (i3 : Int) (i6 : Int) (i9 : Int) : List (Nat × AV) := [(2, (G3 a_p2)), (3, (.ptr 3 0)), (7, (.vsl 14 l10.length)), (8, (.int .i64 i3)), (9, (.int .i64 i6)), (10, (.int .i64 i9))]
def Co (a_g : An) (a_p1 : Int) (a_p2 : Int) : Option (List (Bool)) :=
  (Ce (0 ≤ (a_g.Succ.length : Int) ∧ (a_g.Succ.length : Int) ≤ (a_g.Succ.length : Int) ∧ (a_g.Succ.length : Int) ≤ (room : Int)) (bif ((a_p1 : Int) == a_p2) then (some (List.replicate ((a_g.Succ.length : Int)).toNat false)) else (Ce (A5 a_p1 (List.replicate ((a_g.Succ.length : Int)).toNat false).length) ((At (S := (Int × List (Bool))) (X := List (Bool)) (Bu a_g a_p2) ((0 : Int), ((List.replicate ((a_g.Succ.length : Int)).toNat false).set (a_p1).toNat true))).bind (fun x26 => ((some x26)))))))
theorem Gs (a_g : An) (a_p1 : Int) (a_p2 : Int) (r : List (Bool)) (h : Co a_g a_p1 a_p2 = some r) : Spec Try.prog 17 [(.agg (Ci a_g)), (.int .i64 a_p1), (.int .i64 a_p2)] [] (AV.list 1 eB false r (.own 20000)) [(20000, .tok 1 4 r.length)] := by
  refine Ap (fn := Try.f17) Try.func17 rfl rfl (by kernel_rfl) (fun Γ hn hΓ => ?_); have hq : RgQ Try.prog Γ 71 [] := ⟨hn, mix, hΓ⟩; unfold Co at h; refine B6 [] [(6, (AV.list 1 eB false ([] : List Bool) .exact))] ⟨[(1, (.int .i64 a_p1)), (2, (G3 a_p2)), (3, (.ptr 3 0))], [(3, .row 26 (Jg a_g))], []⟩ [(AVle (.slice 0 0 (fun _ => []) .exact) (AV.list 1 eB false ([] : List Bool) .exact))] hq ⟨D3, trivial⟩ ?_; obtain ⟨hc1, h⟩ := Ab h; refine B6 [] [] ⟨[(1, (.int .i64 a_p1)), (2, (G3 a_p2)), (3, (.ptr 3 0)), (7, (.vsl 14 ((Th a_g)).toNat))], [(3, .row 26 (Jg a_g)), (14, .arr 1 4 (((Th a_g)).toNat) (fun i_ => AV.eraseAll (fun n_ => B4 n_ [3, 14]) ((fun _ => [(.bool false)]) i_)))], []⟩ [(0 ≤ (Th a_g) ∧ (Th a_g) ≤ (Th a_g) ∧ (Th a_g) ≤ (room : Int))] hq ⟨hc1, trivial⟩ ?_; refine Af (Le.trans (Cb (st' := ⟨[(1, (.int .i64 a_p1)), (2, (G3 a_p2)), (3, (.ptr 3 0)), (7, (.vsl 14 ((Th a_g)).toNat))], [(3, .row 26 (Jg a_g)), (14, .arr 1 4 (((Th a_g)).toNat) (Aae a_g))], []⟩) (TmpsLe.refl _) (.same (.arr (fun k hk => L8 (e := eB) (d := false) (.cons (AVle.refl _) .nil) _ k (Mh hk)) .nil))) (Bz (congrArg (fun k_ : Nat => (⟨[(1, (.int .i64 a_p1)), (2, (G3 a_p2)), (3, (.ptr 3 0)), (7, (.vsl 14 k_))], [(3, .row 26 (Jg a_g)), (14, .arr 1 4 k_ (Aae a_g))], []⟩ : St)) (show ((Th a_g)).toNat = (K0 a_g).length from (List.length_replicate ..).symm)))) ?_; refine Ae ?_; refine Au ⟨[(1, (.int .i64 a_p1)), (2, (G3 a_p2)), (3, (.ptr 3 0)), (7, (.vsl 14 (K0 a_g).length)), (17, (.bool ((a_p1 : Int) == a_p2)))], [(3, .row 26 (Jg a_g)), (14, .arr 1 4 ((K0 a_g).length) (Aae a_g))], []⟩ hq ?_; refine Ak ((a_p1 : Int) == a_p2) (by kernel_rfl) (fun hb => ?_) (fun hb => ?_)
  · replace h := Ao hb h; clear hb; refine Au ⟨[(6, (.vsl 14 (K0 a_g).length))], [(14, .arr 1 4 ((K0 a_g).length) (Aae a_g))], []⟩ hq ?_; refine Af (Le.trans (Fv (nm := 14) (sz := 1) (n := ((K0 a_g).length)) (e := 4) (f := (Aae a_g)) (g := (Aae a_g)) rfl ⟨rfl, trivial⟩ (fun _ _ => rfl) (by rw [hΓ]; rfl)) (Bz (st' := ⟨[(6, (AV.list 1 eB false (K0 a_g) (.own 14)))], [(14, .tok 1 4 ((K0 a_g).length))], []⟩) (by kernel_rfl))) ?_; refine Ar ?_; refine A2 ?_; obtain rfl := OI h; exact ⟨.inl rfl, [(14, 20000)], by kernel_rfl⟩
  · replace h := Aw hb h; clear hb; refine Ai ?_; refine Aa ?_; obtain ⟨hc2, h⟩ := Ab h; refine B6 [] [] ⟨[(2, (G3 a_p2)), (3, (.ptr 3 0)), (7, (.vsl 14 (K0 a_g).length))], [(3, .row 26 (Jg a_g)), (14, .arr 1 4 ((K0 a_g).length) (fun i_ => AV.eraseAll (fun n_ => B4 n_ [3, 14]) ((E7 (Aae a_g) (a_p1).toNat 0 [(.bool true)]) i_)))], []⟩ [(A5 a_p1 (K0 a_g).length), ((K0 a_g).length = (K0 a_g).length)] hq ⟨hc2, rfl, trivial⟩ ?_; refine Af (Le.trans (Cb (st' := ⟨[(2, (G3 a_p2)), (3, (.ptr 3 0)), (7, (.vsl 14 (K0 a_g).length))], [(3, .row 26 (Jg a_g)), (14, .arr 1 4 ((K0 a_g).length) (fun i => eB ((Z9 a_g a_p1).getD i false)))], []⟩) (TmpsLe.refl _) (.same (.arr (Bd (List.length_set ..).symm (fun k_ hk_ => (congrArg (AV.eraseAll (fun n_ => B4 n_ [3, 14])) ((F4 (fun _ _ => rfl) (Gw hc2) rfl) k_ hk_)).trans rfl)) .nil))) (Bz (congrArg (fun k_ : Nat => (⟨[(2, (G3 a_p2)), (3, (.ptr 3 0)), (7, (.vsl 14 k_))], [(3, .row 26 (Jg a_g)), (14, .arr 1 4 k_ (fun i => eB ((Z9 a_g a_p1).getD i false)))], []⟩ : St)) (show (K0 a_g).length = (Z9 a_g a_p1).length from (List.length_set ..).symm)))) ?_; refine Ae ?_; refine Au ⟨[(2, (G3 a_p2)), (3, (.ptr 3 0)), (7, (.vsl 14 (Z9 a_g a_p1).length)), (8, (.int .i64 (0 : Int)))], [(3, .row 26 (Jg a_g)), (14, .arr 1 4 ((Z9 a_g a_p1).length) (fun i => eB ((Z9 a_g a_p1).getD i false)))], []⟩ hq ?_; refine Ah ?_; refine Af (st' := (fun ((i3, l4) : (Int × List (Bool))) => (⟨[(2, (G3 a_p2)), (3, (.ptr 3 0)), (7, (.vsl 14 l4.length)), (8, (.int .i64 i3))], (Q304 a_g l4), []⟩ : St)) ((0 : Int), (Z9 a_g a_p1))) (Le.refl _ _) ?_; obtain ⟨x26, hx26, h⟩ := bind_some h; refine Bb (fun ((i3, l4) : (Int × List (Bool))) => (⟨[(2, (G3 a_p2)), (3, (.ptr 3 0)), (7, (.vsl 14 l4.length)), (8, (.int .i64 i3))], (Q304 a_g l4), []⟩ : St)) _ (fun (l5 : List (Bool)) (e : Exit) (st : St) => e = (.exit 0) ∧ Le Γ st (⟨[(7, (.vsl 14 l5.length))], [(14, .arr 1 4 l5.length (fun i => eB (l5.getD i false)))], []⟩ : St)) ?_ hx26 ?_
    · rintro ⟨i3, l4⟩ y h; unfold Bu at h; refine Ae ?_; refine Au ⟨[(2, (G3 a_p2)), (3, (.ptr 3 0)), (7, (.vsl 14 l4.length)), (8, (.int .i64 i3)), (25, (.bool (decide ((i3 : Int) < (l4.length : Int)))))], (Q304 a_g l4), []⟩ hq ?_; refine Ak (decide ((i3 : Int) < (l4.length : Int))) (by kernel_rfl) (fun hb => ?_) (fun hb => ?_)
      · replace h := Ao hb h; clear hb; refine Ai ?_; refine Aa ?_; refine Ae ?_; refine Ah ?_; refine Au ⟨[(2, (G3 a_p2)), (3, (.ptr 3 0)), (7, (.vsl 14 l4.length)), (8, (.int .i64 i3)), (9, (.int .i64 (0 : Int)))], (Q304 a_g l4), []⟩ hq ?_; refine Ah ?_; refine Af (st' := (fun ((i6, l7) : (Int × List (Bool))) => (⟨[(2, (G3 a_p2)), (3, (.ptr 3 0)), (7, (.vsl 14 l7.length)), (8, (.int .i64 i3)), (9, (.int .i64 i6))], (Q305 a_g l7), []⟩ : St)) ((0 : Int), l4)) (Le.refl _ _) ?_; obtain ⟨x24, hx24, h⟩ := bind_some h; refine Bb (fun ((i6, l7) : (Int × List (Bool))) => (⟨[(2, (G3 a_p2)), (3, (.ptr 3 0)), (7, (.vsl 14 l7.length)), (8, (.int .i64 i3)), (9, (.int .i64 i6))], (Q305 a_g l7), []⟩ : St)) _ (fun (l8 : List (Bool)) (e : Exit) (st : St) => e = (.exit 2) ∧ Le Γ st (⟨[(2, (G3 a_p2)), (3, (.ptr 3 0)), (7, (.vsl 14 l8.length)), (8, (.int .i64 i3))], [(3, .row 26 (Jg a_g)), (14, .arr 1 4 l8.length (fun i => eB (l8.getD i false)))], []⟩ : St)) ?_ hx24 ?_
        · rintro ⟨i6, l7⟩ y h; unfold Bt at h; refine Ae ?_; refine Au ⟨[(2, (G3 a_p2)), (3, (.ptr 3 0)), (7, (.vsl 14 l7.length)), (8, (.int .i64 i3)), (9, (.int .i64 i6)), (31, (.bool (decide ((i6 : Int) < (l7.length : Int)))))], (Q305 a_g l7), []⟩ hq ?_; refine Ak (decide ((i6 : Int) < (l7.length : Int))) (by kernel_rfl) (fun hb => ?_) (fun hb => ?_)
          · replace h := Ao hb h; clear hb; refine Ai ?_; refine Aa ?_; refine Ae ?_; refine Ah ?_; refine Au ⟨[(2, (G3 a_p2)), (3, (.ptr 3 0)), (7, (.vsl 14 l7.length)), (8, (.int .i64 i3)), (9, (.int .i64 i6)), (10, (.int .i64 (0 : Int)))], (Q305 a_g l7), []⟩ hq ?_; refine Ah ?_; refine Af (st' := (fun ((i9, l10) : (Int × List (Bool))) => (⟨(Q301 a_p2 l10 i3 i6 i9), (Q303 a_g l10), []⟩ : St)) ((0 : Int), l7)) (Le.refl _ _) ?_; obtain ⟨x22, hx22, h⟩ := bind_some h; refine Bb (fun ((i9, l10) : (Int × List (Bool))) => (⟨(Q301 a_p2 l10 i3 i6 i9), (Q303 a_g l10), []⟩ : St)) _ (fun (l11 : List (Bool)) (e : Exit) (st : St) => e = (.exit 4) ∧ Le Γ st (⟨[(2, (G3 a_p2)), (3, (.ptr 3 0)), (7, (.vsl 14 l11.length)), (8, (.int .i64 i3)), (9, (.int .i64 i6))], [(3, .row 26 (Jg a_g)), (14, .arr 1 4 l11.length (fun i => eB (l11.getD i false)))], []⟩ : St)) ?_ hx22 ?_
            · rintro ⟨i9, l10⟩ y h; unfold Bl at h; refine Ae ?_; obtain ⟨hc12, h⟩ := Ab h; obtain ⟨hc13, h⟩ := Ab h; refine B6 [] [] ⟨[(2, (G3 a_p2)), (3, (.ptr 3 0)), (7, (.vsl 14 l10.length)), (8, (.int .i64 i3)), (9, (.int .i64 i6)), (10, (.int .i64 i9)), (47, (.bool (bif (l10.getD (i6).toNat false) then (decide ((i9 : Int) < ((a_g.Succ.getD (i6).toNat []).length : Int))) else false)))], (Q303 a_g l10), []⟩ [(A5 i6 l10.length), (l10.length = l10.length), ((Mm l10 i6) = true → (Mm l10 i6) = true), ((Mm l10 i6) = true → (Mm l10 i6) = true), ((Mm l10 i6) = true → (Mm l10 i6) = true), ((Mm l10 i6) = true → (A5 i6 a_g.Succ.length)), ((Mm l10 i6) = true → (Mm l10 i6) = true), ((Mm l10 i6) = true → (Mm l10 i6) = true), ((Mm l10 i6) = true → (Mm l10 i6) = true), ((Mm l10 i6) = true → (Mm l10 i6) = true), ((l10.getD (i6).toNat false) = true → (Mm l10 i6) = true)] hq ⟨hc12, rfl, (fun hg => hg), (fun hg => hg), (fun hg => hg), (fun hg => (hc13 hg)), (fun hg => hg), (fun hg => hg), (fun hg => hg), (fun hg => hg), gT, trivial⟩ ?_; refine Ak (bif (l10.getD (i6).toNat false) then (decide ((i9 : Int) < ((a_g.Succ.getD (i6).toNat []).length : Int))) else false) (by kernel_rfl) (fun hb => ?_) (fun hb => ?_)
              · replace h := Ao hb h; clear hb; refine Ai ?_; refine Aa ?_; refine Ae ?_; obtain ⟨x20, hx20, h⟩ := bind_some h; refine Ey (fun (l14 : List (Bool)) (e : Exit) (st : St) => e = .normal ∧ Le Γ st (⟨[(2, (G3 a_p2)), (3, (.ptr 3 0)), (7, (.vsl 14 l14.length)), (8, (.int .i64 i3)), (9, (.int .i64 i6)), (10, (.int .i64 i9))], [(3, .row 26 (Jg a_g)), (14, .arr 1 4 l14.length (fun i => eB (l14.getD i false)))], []⟩ : St)) hx20 ?_ ?_
                · clear h hx20; intro y h; refine Ah ?_; obtain ⟨hc15, h⟩ := Ab h; obtain ⟨hc16, h⟩ := Ab h; refine B6 [] [] ⟨[(2, (G3 a_p2)), (3, (.ptr 3 0)), (7, (.vsl 14 l10.length)), (8, (.int .i64 i3)), (9, (.int .i64 i6)), (10, (.int .i64 i9)), (59, (.bool (((Z8 a_g i6 i9) : Int) != a_p2)))], (Q303 a_g l10), []⟩ [(A5 i6 a_g.Succ.length), (A5 i9 (a_g.Succ.getD (i6).toNat []).length)] hq ⟨hc15, hc16, trivial⟩ ?_; refine Ak (((Z8 a_g i6 i9) : Int) != a_p2) (by kernel_rfl) (fun hb => ?_) (fun hb => ?_)
                  · replace h := Ao hb h; clear hb; obtain ⟨hc17, h⟩ := Ab h; obtain ⟨hc18, h⟩ := Ab h; obtain ⟨hc19, h⟩ := Ab h; refine rg [] [] ⟨(Q301 a_p2 l10 i3 i6 i9), [(3, .row 26 (Jg a_g)), (14, .arr 1 4 l10.length (fun i_ => AV.eraseAll (fun n_ => B4 n_ [3, 14]) ((E7 (fun i => eB (l10.getD i false)) ((Z8 a_g i6 i9)).toNat 0 [(.bool true)]) i_)))], []⟩ [(A5 i6 a_g.Succ.length), (A5 i9 (a_g.Succ.getD (i6).toNat []).length), (A5 (Z8 a_g i6 i9) l10.length), (l10.length = l10.length)] hq ⟨hc17, hc18, hc19, rfl, trivial⟩ ?_; refine Am ?_; obtain rfl := OI h; exact ⟨rfl, Le.trans (Le.trans (Cb (st' := ⟨(Q301 a_p2 l10 i3 i6 i9), [(3, .row 26 (Jg a_g)), (14, .arr 1 4 l10.length (fun i => eB ((l10.set ((Z8 a_g i6 i9)).toNat true).getD i false)))], []⟩) (TmpsLe.refl _) (.same (.arr (Bd (List.length_set ..).symm (fun k_ hk_ => (congrArg (AV.eraseAll (fun n_ => B4 n_ [3, 14])) ((F4 (fun _ _ => rfl) (Gw hc19) rfl) k_ hk_)).trans rfl)) .nil))) (Bz (congrArg (fun k_ : Nat => (⟨[(2, (G3 a_p2)), (3, (.ptr 3 0)), (7, (.vsl 14 k_)), (8, (.int .i64 i3)), (9, (.int .i64 i6)), (10, (.int .i64 i9))], [(3, .row 26 (Jg a_g)), (14, .arr 1 4 k_ (fun i => eB ((l10.set ((Z8 a_g i6 i9)).toNat true).getD i false)))], []⟩ : St)) (show l10.length = (l10.set ((Z8 a_g i6 i9)).toNat true).length from (List.length_set ..).symm)))) (Le.refl _ _)⟩
                  · replace h := Aw hb h; clear hb; refine Ai ?_; refine Am ?_; obtain rfl := OI h; exact ⟨rfl, Fx [2, 3, 7, 8, 9, 10] [3, 14] hq⟩
                · clear hx20; rintro e st' ⟨rfl, hl21⟩; refine Aa ?_; refine Af hl21 ?_; refine Ll ⟨[(2, (G3 a_p2)), (3, (.ptr 3 0)), (7, (.vsl 14 x20.length)), (8, (.int .i64 i3)), (9, (.int .i64 i6)), (10, (.int .i64 (Bi (i9 + (1 : Int)))))], [(3, .row 26 (Jg a_g)), (14, .arr 1 4 x20.length (fun i => eB (x20.getD i false)))], []⟩ hq ?_; obtain rfl := OI h; exact ⟨rfl, Le.refl _ _⟩
              · replace h := Aw hb h; clear hb; refine Bc ?_; refine A1 ?_; obtain rfl := OI h; exact ⟨(by intro hh; cases hh), rfl, Fx [2, 3, 7, 8, 9] [3, 14] hq⟩
            · clear hx22; rintro e st' ⟨rfl, hl23⟩; refine Ay ?_; refine Am ?_; refine Aa ?_; refine Af hl23 ?_; refine Ll ⟨[(2, (G3 a_p2)), (3, (.ptr 3 0)), (7, (.vsl 14 x22.length)), (8, (.int .i64 i3)), (9, (.int .i64 (Bi (i6 + (1 : Int)))))], [(3, .row 26 (Jg a_g)), (14, .arr 1 4 x22.length (fun i => eB (x22.getD i false)))], []⟩ hq ?_; obtain rfl := OI h; exact ⟨rfl, Le.refl _ _⟩
          · replace h := Aw hb h; clear hb; refine Bc ?_; refine A1 ?_; obtain rfl := OI h; exact ⟨(by intro hh; cases hh), rfl, Fx [2, 3, 7, 8] [3, 14] hq⟩
        · clear hx24; rintro e st' ⟨rfl, hl25⟩; refine Ay ?_; refine Am ?_; refine Aa ?_; refine Af hl25 ?_; refine Ll ⟨[(2, (G3 a_p2)), (3, (.ptr 3 0)), (7, (.vsl 14 x24.length)), (8, (.int .i64 (Bi (i3 + (1 : Int)))))], [(3, .row 26 (Jg a_g)), (14, .arr 1 4 x24.length (fun i => eB (x24.getD i false)))], []⟩ hq ?_; obtain rfl := OI h; exact ⟨rfl, Le.refl _ _⟩
      · replace h := Aw hb h; clear hb; refine Bc ?_; refine A1 ?_; obtain rfl := OI h; exact ⟨(by intro hh; cases hh), rfl, Fx [7] [14] hq⟩
    · clear hx26; rintro e st' ⟨rfl, hl27⟩; refine Ay ?_; refine Aa ?_; refine Af hl27 ?_; refine Au ⟨[(6, (.vsl 14 x26.length))], [(14, .arr 1 4 x26.length (fun i => eB (x26.getD i false)))], []⟩ hq ?_; refine Af (Le.trans (Fv (nm := 14) (sz := 1) (n := x26.length) (e := 4) (f := (fun i => eB (x26.getD i false))) (g := (fun i => eB (x26.getD i false))) rfl ⟨rfl, trivial⟩ (fun _ _ => rfl) (by rw [hΓ]; rfl)) (Bz (st' := ⟨[(6, (AV.list 1 eB false x26 (.own 14)))], [(14, .tok 1 4 x26.length)], []⟩) (by kernel_rfl))) ?_; refine Ar ?_; obtain rfl := OI h; exact ⟨.inl rfl, [(14, 20000)], by kernel_rfl⟩
end
end Go.Proofs.Ytjpacggpipflcaa

namespace Go.Proofs.Ytjpacggpipflcaa
noncomputable section
open Go Go.RowKit
set_option linter.unusedVariables false
set_option maxRecDepth 100000
set_option maxHeartbeats 2000000
def A9 (a_succ : List (List (Int))) (x3 : (An × Int)) (x5 : List (Bool)) (i7 : Int) : (Bool × Int) → Option (LR (Bool × Int) Bool) :=
  fun ((b9, i10) : (Bool × Int)) => (Ce (A5 i7 x5.length) (Ce (((x5.getD (i7).toNat false) == true) = true → (A5 i7 a_succ.length)) (bif (bif (x5.getD (i7).toNat false) then (decide ((i10 : Int) < ((a_succ.getD (i7).toNat []).length : Int))) else false) then (Ce ((b9 == false) = true → (A5 i7 a_succ.length)) (Ce ((b9 == false) = true → (A5 i10 (a_succ.getD (i7).toNat []).length)) ((bif (b9 == false) then Co x3.1 ((a_succ.getD (i7).toNat []).getD (i10).toNat (0 : Int)) (-1 : Int) else some []).bind fun x16 => (Ce ((b9 == false) = true → (A5 i7 x16.length)) (some (.next ((bif b9 then true else (x16.getD (i7).toNat false)), (Bi (i10 + (1 : Int)))))))))) else (some (.done b9)))))
def Bk (a_succ : List (List (Int))) (x3 : (An × Int)) (x5 : List (Bool)) : (Bool × Int) → Option (LR (Bool × Int) Bool) :=
  fun ((b6, i7) : (Bool × Int)) => (bif (decide ((i7 : Int) < (a_succ.length : Int))) then ((At (S := (Bool × Int)) (X := Bool) (A9 a_succ x3 x5 i7) (b6, (0 : Int))).bind (fun x18 => ((some (.next (x18, (Bi (i7 + (1 : Int))))))))) else (some (.done b6)))
def Td (x3 : (An × Int)) : AV := (.agg (Ci x3.1))
def I8 (a_succ : List (List (Int))) : AV := (AV.list 1 eLI64 [] a_succ .none)
def Ph (x5 : List (Bool)) : AV := (AV.list 1 eB false x5 (.own 30))
def N9 (x5 : List (Bool)) (i7 : Int) := ((x5.getD (i7).toNat false) == true)
def Vo (a_succ : List (List (Int))) := (decide (((16 : Int) : Int) < (a_succ.length : Int)))
def X8 (x23 : List (A6)) (x24 : List ((Int × Int))) := (bif (((x23.length : Int) : Int) == (0 : Int)) then (((x24.length : Int) : Int) == (0 : Int)) else false)
def Q396 (x20 : Bool) (x23 : List (A6)) (x24 : List ((Int × Int))) (x25 : Bool) := ((x20 == false) && ((bif (X8 x23 x24) then x25 else false) == true))
def V6 (x20 : Bool) (x23 : List (A6)) := ((x20 == false) && ((((x23.length : Int) : Int) == (0 : Int)) == true))
def Q393 (x3 : (An × Int)) : List (Nat × Own) := [(3, .row 26 [(AV.list 1 eLI64 [] x3.1.Succ .none), (AV.list 1 eLI64 [] x3.1.Pred .none)])]
def O6 (x3 : (An × Int)) (x5 : List (Bool)) : List (Nat × Own) := [(3, .row 26 [(AV.list 1 eLI64 [] x3.1.Succ .none), (AV.list 1 eLI64 [] x3.1.Pred .none)]), (30, .tok 1 4 x5.length)]
def Dz (a_succ : List (List (Int))) : Option Bool :=
  ((Dq).bind fun x1 => (bif (!x1) then (some false) else ((bif ((decide (((16 : Int) : Int) < (a_succ.length : Int))) == false) then Dr a_succ else some false).bind fun x2 => (bif (bif (decide (((16 : Int) : Int) < (a_succ.length : Int))) then true else (!x2)) then (some true) else ((Em a_succ).bind fun x3 => (bif ((x3.2 : Int) != (0 : Int)) then ((Dj x3.1).bind fun x4 => (some (!x4))) else ((Co x3.1 (0 : Int) (-1 : Int)).bind fun x5 => ((At (S := (Bool × Int)) (X := Bool) (Bk a_succ x3 x5) (false, (0 : Int))).bind (fun x20 => (((Dj x3.1).bind fun x22 => (bif (x22 == x20) then (some false) else ((bif (x20 == false) then Fk x3.1 else some []).bind fun x23 => ((bif ((x20 == false) && ((((x23.length : Int) : Int) == (0 : Int)) == true)) then Dy x3.1 else some []).bind fun x24 => ((bif ((x20 == false) && ((bif (((x23.length : Int) : Int) == (0 : Int)) then (((x24.length : Int) : Int) == (0 : Int)) else false) == true)) then Dt x3.1 else some false).bind fun x25 => ((bif ((x20 == false) && ((bif (bif (((x23.length : Int) : Int) == (0 : Int)) then (((x24.length : Int) : Int) == (0 : Int)) else false) then x25 else false) == true)) then En x3.1 (0 : Int) else some (0 : Int)).bind fun x26 => (some (bif x20 then true else (bif (bif (bif (((x23.length : Int) : Int) == (0 : Int)) then (((x24.length : Int) : Int) == (0 : Int)) else false) then x25 else false) then ((x26 : Int) == (0 : Int)) else false)))))))))))))))))))
theorem ok_locksteplaw10_LoopNone (a_succ : List (List (Int))) (r : Bool) (h : Dz a_succ = some r) : Spec Try.prog 5 [(AV.list 1 eLI64 [] a_succ .none)] [] (.bool r) [] := by
  refine Ap (fn := Try.f5) Try.func5 rfl rfl (by kernel_rfl) (fun Γ hn hΓ => ?_); have hq : RgQ Try.prog Γ 93 [] := ⟨hn, mix, hΓ⟩; unfold Dz at h; refine Au ⟨[(0, (I8 a_succ))], [], []⟩ hq ?_; refine Ae ?_; obtain ⟨x1, hx1, h⟩ := bind_some h; refine B6 [⟨[], [], (.bool x1), [], []⟩] [] ⟨[(0, (I8 a_succ)), (10, (.bool (!x1)))], [], []⟩ [(Spec Try.prog 8 [] [] (.bool x1) [])] hq ⟨(Jz  x1 hx1), trivial⟩ ?_; refine Ak (!x1) (by kernel_rfl) (fun hb => ?_) (fun hb => ?_)
  · replace h := Ao hb h; clear hb; refine Au ⟨[(2, (.bool false))], [], []⟩ hq ?_; refine Ar ?_; refine A2 ?_; obtain rfl := OI h; exact ⟨.inl rfl, [], by kernel_rfl⟩
  · replace h := Aw hb h; clear hb; refine Ai ?_; refine Aa ?_; refine Ae ?_; obtain ⟨x2, hx2, h⟩ := bind_some h; refine B6 [⟨[], [], (.bool x2), [], []⟩] [] ⟨[(0, (I8 a_succ)), (18, (.bool (bif (Vo a_succ) then true else (!x2))))], [], []⟩ [(((Vo a_succ) == false) = true → ((Vo a_succ) == false) = true), (((Vo a_succ) == false) = true → (Spec Try.prog 9 [(I8 a_succ)] [] (.bool x2) [])), (((Vo a_succ) == false) = true → ((Vo a_succ) == false) = true), ((Vo a_succ) = false → ((Vo a_succ) == false) = true)] hq ⟨(fun hg => hg), (fun hg => (Jy a_succ x2 (Ao hg hx2))), (fun hg => hg), gF, trivial⟩ ?_; refine Ak (bif (Vo a_succ) then true else (!x2)) (by kernel_rfl) (fun hb => ?_) (fun hb => ?_)
    · replace h := Ao hb h; clear hb; refine Au ⟨[(2, (.bool true))], [], []⟩ hq ?_; refine Ar ?_; refine A2 ?_; obtain rfl := OI h; exact ⟨.inl rfl, [], by kernel_rfl⟩
    · replace h := Aw hb h; clear hb; refine Ai ?_; refine Aa ?_; obtain ⟨x3, hx3, h⟩ := bind_some h; refine B6 [⟨[], [], (.tuple [(Td x3), (.int .i64 x3.2)]), [], []⟩] [] ⟨[(0, (I8 a_succ)), (3, (.ptr 3 0)), (4, (.int .i64 x3.2))], (Q393 x3), []⟩ [(Spec Try.prog 10 [(I8 a_succ)] [] (.tuple [(Td x3), (.int .i64 x3.2)]) [])] hq ⟨(Jb a_succ x3 hx3), trivial⟩ ?_; refine Ae ?_; refine Au ⟨[(0, (I8 a_succ)), (3, (.ptr 3 0)), (25, (.bool ((x3.2 : Int) != (0 : Int))))], (Q393 x3), []⟩ hq ?_; refine Ak ((x3.2 : Int) != (0 : Int)) (by kernel_rfl) (fun hb => ?_) (fun hb => ?_)
      · replace h := Ao hb h; clear hb; obtain ⟨x4, hx4, h⟩ := bind_some h; refine B6 [⟨[], [], (.bool x4), [], []⟩] [] ⟨[(2, (.bool (!x4)))], [], []⟩ [(Spec Try.prog 16 [(Td x3)] [] (.bool x4) [])] hq ⟨(Gd x3.1 x4 hx4), trivial⟩ ?_; refine Ar ?_; refine A2 ?_; obtain rfl := OI h; exact ⟨.inl rfl, [], by kernel_rfl⟩
      · replace h := Aw hb h; clear hb; refine Ai ?_; refine Aa ?_; refine Au ⟨[(0, (I8 a_succ)), (3, (.ptr 3 0)), (5, (.bool false))], (Q393 x3), []⟩ hq ?_; obtain ⟨x5, hx5, h⟩ := bind_some h; refine B6 [⟨[], [(20000, 30)], (AV.list 1 eB false x5 (.own 20000)), [(20000, .tok 1 4 x5.length)], []⟩] [] ⟨[(0, (I8 a_succ)), (3, (.ptr 3 0)), (5, (.bool false)), (6, (Ph x5))], (O6 x3 x5), []⟩ [(Spec Try.prog 17 [(Td x3), (.int .i64 (0 : Int)), (.int .i64 (-1 : Int))] [] (AV.list 1 eB false x5 (.own 20000)) [(20000, .tok 1 4 x5.length)])] hq ⟨(Gs x3.1 (0 : Int) (-1 : Int) x5 hx5), trivial⟩ ?_; refine Ae ?_; refine Au ⟨[(0, (I8 a_succ)), (3, (.ptr 3 0)), (5, (.bool false)), (6, (Ph x5)), (7, (.int .i64 (0 : Int)))], (O6 x3 x5), []⟩ hq ?_; refine Ah ?_; refine Af (st' := (fun ((b6, i7) : (Bool × Int)) => (⟨[(0, (I8 a_succ)), (3, (.ptr 3 0)), (5, (.bool b6)), (6, (Ph x5)), (7, (.int .i64 i7))], (O6 x3 x5), []⟩ : St)) (false, (0 : Int))) (Le.refl _ _) ?_; obtain ⟨x20, hx20, h⟩ := bind_some h; refine Bb (fun ((b6, i7) : (Bool × Int)) => (⟨[(0, (I8 a_succ)), (3, (.ptr 3 0)), (5, (.bool b6)), (6, (Ph x5)), (7, (.int .i64 i7))], (O6 x3 x5), []⟩ : St)) _ (fun (b8 : Bool) (e : Exit) (st : St) => e = (.exit 0) ∧ Le Γ st (⟨[(3, (.ptr 3 0)), (5, (.bool b8))], (Q393 x3), []⟩ : St)) ?_ hx20 ?_
        · rintro ⟨b6, i7⟩ y h; unfold Bk at h; refine Ae ?_; refine Au ⟨[(0, (I8 a_succ)), (3, (.ptr 3 0)), (5, (.bool b6)), (6, (Ph x5)), (7, (.int .i64 i7)), (34, (.bool (decide ((i7 : Int) < (a_succ.length : Int)))))], (O6 x3 x5), []⟩ hq ?_; refine Ak (decide ((i7 : Int) < (a_succ.length : Int))) (by kernel_rfl) (fun hb => ?_) (fun hb => ?_)
          · replace h := Ao hb h; clear hb; refine Ai ?_; refine Aa ?_; refine Ae ?_; refine Ah ?_; refine Au ⟨[(0, (I8 a_succ)), (3, (.ptr 3 0)), (5, (.bool b6)), (6, (Ph x5)), (7, (.int .i64 i7)), (8, (.int .i64 (0 : Int)))], (O6 x3 x5), []⟩ hq ?_; refine Ah ?_; refine Af (st' := (fun ((b9, i10) : (Bool × Int)) => (⟨[(0, (I8 a_succ)), (3, (.ptr 3 0)), (5, (.bool b9)), (6, (Ph x5)), (7, (.int .i64 i7)), (8, (.int .i64 i10))], (O6 x3 x5), []⟩ : St)) (b6, (0 : Int))) (Le.refl _ _) ?_; obtain ⟨x18, hx18, h⟩ := bind_some h; refine Bb (fun ((b9, i10) : (Bool × Int)) => (⟨[(0, (I8 a_succ)), (3, (.ptr 3 0)), (5, (.bool b9)), (6, (Ph x5)), (7, (.int .i64 i7)), (8, (.int .i64 i10))], (O6 x3 x5), []⟩ : St)) _ (fun (b11 : Bool) (e : Exit) (st : St) => e = (.exit 2) ∧ Le Γ st (⟨[(0, (I8 a_succ)), (3, (.ptr 3 0)), (5, (.bool b11)), (6, (Ph x5)), (7, (.int .i64 i7))], (O6 x3 x5), []⟩ : St)) ?_ hx18 ?_
            · rintro ⟨b9, i10⟩ y h; unfold A9 at h; refine Ae ?_; obtain ⟨hc12, h⟩ := Ab h; obtain ⟨hc13, h⟩ := Ab h; refine B6 [] [] ⟨[(0, (I8 a_succ)), (3, (.ptr 3 0)), (5, (.bool b9)), (6, (Ph x5)), (7, (.int .i64 i7)), (8, (.int .i64 i10)), (49, (.bool (bif (x5.getD (i7).toNat false) then (decide ((i10 : Int) < ((a_succ.getD (i7).toNat []).length : Int))) else false)))], (O6 x3 x5), []⟩ [(A5 i7 x5.length), ((N9 x5 i7) = true → (N9 x5 i7) = true), ((N9 x5 i7) = true → (N9 x5 i7) = true), ((N9 x5 i7) = true → (A5 i7 a_succ.length)), ((N9 x5 i7) = true → (N9 x5 i7) = true), ((N9 x5 i7) = true → (N9 x5 i7) = true), ((N9 x5 i7) = true → (N9 x5 i7) = true), ((N9 x5 i7) = true → (N9 x5 i7) = true), ((x5.getD (i7).toNat false) = true → (N9 x5 i7) = true)] hq ⟨hc12, (fun hg => hg), (fun hg => hg), (fun hg => (hc13 hg)), (fun hg => hg), (fun hg => hg), (fun hg => hg), (fun hg => hg), gT, trivial⟩ ?_; refine Ak (bif (x5.getD (i7).toNat false) then (decide ((i10 : Int) < ((a_succ.getD (i7).toNat []).length : Int))) else false) (by kernel_rfl) (fun hb => ?_) (fun hb => ?_)
              · replace h := Ao hb h; clear hb; refine Ai ?_; refine Aa ?_; refine Ae ?_; refine Ah ?_; obtain ⟨hc14, h⟩ := Ab h; obtain ⟨hc15, h⟩ := Ab h; obtain ⟨x16, hx16, h⟩ := bind_some h; obtain ⟨hc17, h⟩ := Ab h; refine rg [⟨[], [], (AV.list 1 eB false x16 .none), [], []⟩] [] ⟨[(0, (I8 a_succ)), (3, (.ptr 3 0)), (5, (.bool (bif b9 then true else (x16.getD (i7).toNat false)))), (6, (Ph x5)), (7, (.int .i64 i7)), (8, (.int .i64 i10))], (O6 x3 x5), []⟩ [((b9 == false) = true → (b9 == false) = true), ((b9 == false) = true → (b9 == false) = true), ((b9 == false) = true → (A5 i7 a_succ.length)), ((b9 == false) = true → (b9 == false) = true), ((b9 == false) = true → (b9 == false) = true), ((b9 == false) = true → (b9 == false) = true), ((b9 == false) = true → (A5 i10 (a_succ.getD (i7).toNat []).length)), ((b9 == false) = true → (b9 == false) = true), ((b9 == false) = true → (b9 == false) = true), ((b9 == false) = true → (b9 == false) = true), ((b9 == false) = true → (Spec Try.prog 17 [(Td x3), (.int .i64 ((a_succ.getD (i7).toNat []).getD (i10).toNat (0 : Int))), (.int .i64 (-1 : Int))] [] (AV.list 1 eB false x16 .none) [])), ((b9 == false) = true → (b9 == false) = true), ((b9 == false) = true → (b9 == false) = true), ((b9 == false) = true → (A5 i7 x16.length)), ((b9 == false) = true → (b9 == false) = true), (b9 = false → (b9 == false) = true)] hq ⟨(fun hg => hg), (fun hg => hg), (fun hg => (hc14 hg)), (fun hg => hg), (fun hg => hg), (fun hg => hg), (fun hg => (hc15 hg)), (fun hg => hg), (fun hg => hg), (fun hg => hg), (fun hg => (Spec.drop (Gs x3.1 ((a_succ.getD (i7).toNat []).getD (i10).toNat (0 : Int)) (-1 : Int) x16 (Ao hg hx16)))), (fun hg => hg), (fun hg => hg), (fun hg => (hc17 hg)), (fun hg => hg), gF, trivial⟩ ?_; refine Am ?_; refine Aa ?_; refine Ll ⟨[(0, (I8 a_succ)), (3, (.ptr 3 0)), (5, (.bool (bif b9 then true else (x16.getD (i7).toNat false)))), (6, (Ph x5)), (7, (.int .i64 i7)), (8, (.int .i64 (Bi (i10 + (1 : Int)))))], (O6 x3 x5), []⟩ hq ?_; obtain rfl := OI h; exact ⟨rfl, Le.refl _ _⟩
              · replace h := Aw hb h; clear hb; refine Bc ?_; refine A1 ?_; obtain rfl := OI h; exact ⟨(by intro hh; cases hh), rfl, Fx [0, 3, 5, 6, 7] [3, 30] hq⟩
            · clear hx18; rintro e st' ⟨rfl, hl19⟩; refine Ay ?_; refine Am ?_; refine Aa ?_; refine Af hl19 ?_; refine Ll ⟨[(0, (I8 a_succ)), (3, (.ptr 3 0)), (5, (.bool x18)), (6, (Ph x5)), (7, (.int .i64 (Bi (i7 + (1 : Int)))))], (O6 x3 x5), []⟩ hq ?_; obtain rfl := OI h; exact ⟨rfl, Le.refl _ _⟩
          · replace h := Aw hb h; clear hb; refine Bc ?_; refine A1 ?_; obtain rfl := OI h; exact ⟨(by intro hh; cases hh), rfl, Fx [3, 5] [3] hq⟩
        · clear hx20; rintro e st' ⟨rfl, hl21⟩; refine Ay ?_; refine Aa ?_; refine Af hl21 ?_; refine Ae ?_; obtain ⟨x22, hx22, h⟩ := bind_some h; refine B6 [⟨[], [], (.bool x22), [], []⟩] [] ⟨[(3, (.ptr 3 0)), (5, (.bool x20)), (70, (.bool (x22 == x20)))], (Q393 x3), []⟩ [(Spec Try.prog 16 [(Td x3)] [] (.bool x22) [])] hq ⟨(Gd x3.1 x22 hx22), trivial⟩ ?_; refine Ak (x22 == x20) (by kernel_rfl) (fun hb => ?_) (fun hb => ?_)
          · replace h := Ao hb h; clear hb; refine Au ⟨[(2, (.bool false))], [], []⟩ hq ?_; refine Ar ?_; refine A2 ?_; obtain rfl := OI h; exact ⟨.inl rfl, [], by kernel_rfl⟩
          · replace h := Aw hb h; clear hb; refine Ai ?_; refine Aa ?_; obtain ⟨x23, hx23, h⟩ := bind_some h; obtain ⟨x24, hx24, h⟩ := bind_some h; obtain ⟨x25, hx25, h⟩ := bind_some h; obtain ⟨x26, hx26, h⟩ := bind_some h; refine B6 [⟨[], [], (AV.list 2 D2 (default : A6) x23 .none), [], []⟩, ⟨[], [], (AV.list 2 Ck ((0 : Int), (0 : Int)) x24 .none), [], []⟩, ⟨[], [], (.bool x25), [], []⟩, ⟨[], [], (.int .i64 x26), [], []⟩] [] ⟨[(2, (.bool (bif x20 then true else (bif (bif (X8 x23 x24) then x25 else false) then ((x26 : Int) == (0 : Int)) else false))))], [], []⟩ [((x20 == false) = true → (x20 == false) = true), ((x20 == false) = true → (Spec Try.prog 12 [(Td x3)] [] (AV.list 2 D2 (default : A6) x23 .none) [])), ((x20 == false) = true → (x20 == false) = true), ((x20 == false) = true → (x20 == false) = true), ((x20 == false) = true → (x20 == false) = true), ((V6 x20 x23) = true → (V6 x20 x23) = true), ((V6 x20 x23) = true → (Spec Try.prog 18 [(Td x3)] [] (AV.list 2 Ck ((0 : Int), (0 : Int)) x24 .none) [])), ((V6 x20 x23) = true → (V6 x20 x23) = true), ((V6 x20 x23) = true → (V6 x20 x23) = true), ((x20 == false) = true → (x20 == false) = true), ((x20 == false) = true → ((((x23.length : Int) : Int) == (0 : Int)) = true → (V6 x20 x23) = true)), ((x20 == false) = true → (x20 == false) = true), (((x20 == false) && ((X8 x23 x24) == true)) = true → ((x20 == false) && ((X8 x23 x24) == true)) = true), (((x20 == false) && ((X8 x23 x24) == true)) = true → (Spec Try.prog 13 [(Td x3)] [] (.bool x25) [])), ((x20 == false) = true → (x20 == false) = true), ((x20 == false) = true → ((X8 x23 x24) = true → ((x20 == false) && ((X8 x23 x24) == true)) = true)), ((x20 == false) = true → (x20 == false) = true), ((Q396 x20 x23 x24 x25) = true → (Q396 x20 x23 x24 x25) = true), ((Q396 x20 x23 x24 x25) = true → (Spec Try.prog 19 [(Td x3), (.int .i64 (0 : Int))] [] (.int .i64 x26) [])), ((Q396 x20 x23 x24 x25) = true → (Q396 x20 x23 x24 x25) = true), ((x20 == false) = true → (x20 == false) = true), ((x20 == false) = true → ((bif (X8 x23 x24) then x25 else false) = true → (Q396 x20 x23 x24 x25) = true)), (x20 = false → (x20 == false) = true)] hq ⟨(fun hg => hg), (fun hg => (Spec.drop (Ld x3.1 x23 (Ao hg hx23)))), (fun hg => hg), (fun hg => hg), (fun hg => hg), (fun hg => hg), (fun hg => (Spec.drop (Hg x3.1 x24 (Ao hg hx24)))), (fun hg => hg), (fun hg => hg), (fun hg => hg), (fun hg => (aT hg)), (fun hg => hg), (fun hg => hg), (fun hg => (I5 x3.1 x25 (Ao hg hx25))), (fun hg => hg), (fun hg => (aT hg)), (fun hg => hg), (fun hg => hg), (fun hg => (Jf x3.1 (0 : Int) x26 (Ao hg hx26))), (fun hg => hg), (fun hg => hg), (fun hg => (aT hg)), gF, trivial⟩ ?_; refine Ar ?_; obtain rfl := OI h; exact ⟨.inl rfl, [], by kernel_rfl⟩
end
end Go.Proofs.Ytjpacggpipflcaa

namespace Go.Proofs.Ytjpacggpipflcaa
noncomputable section
open Go Go.RowKit
theorem Kd {n : Int} (h : -9223372036854775808 ≤ n) (h' : n < 9223372036854775808) : Bi n = n := by
  show IntKind.i64.wrap n = n
  simp only [IntKind.wrap, IntKind.bits, IntKind.signed]
  simp
  split <;> omega
theorem Ag {α : Type} (l : List α) (i : Nat) (d : α) (h : i < l.length) : l.getD i d = l[i] := by simp [List.getD, h]
end
end Go.Proofs.Ytjpacggpipflcaa

namespace Go.Proofs.Ytjpacggpipflcaa
noncomputable section
open Go Go.RowKit
set_option linter.unusedVariables false
theorem Zm {α β : Type} (l : List α) (E : α → List β) (B : Nat) (h : ∀ a ∈ l, (E a).length ≤ B) : (l.map E).flatten.length ≤ l.length * B := by
  induction l with
  | nil => simp
  | cons a l ih =>
    have h1 := h a (by simp); have h2 := ih (fun b hb => h b (by simp [hb])); rw [List.map_cons, List.flatten_cons, List.length_append, List.length_cons, Nat.add_mul]; omega
theorem E9 {α : Type} {l : List α} {i : Nat} {d : α} (h : i < l.length) : l.getD i d ∈ l := by rw [Ag _ _ _ h]; exact List.getElem_mem h
theorem inB_nat {i n : Nat} (h : i < n) : A5 (i : Int) n := ⟨by omega, by exact_mod_cast h⟩
end
end Go.Proofs.Ytjpacggpipflcaa

namespace Go.Proofs.Ytjpacggpipflcaa
noncomputable section
open Go Go.RowKit
set_option linter.unusedVariables false
set_option linter.unusedSimpArgs false
theorem Dg {S X : Type} (f : S → Option (LR S X)) (T : Nat → S) (x : X) : ∀ (n : Nat), (∀ i, i < n → f (T i) = some (.next (T (i + 1)))) → f (T n) = some (.done x) → At f (T 0) = some x := by
  suffices h : ∀ (k i n : Nat), i + k = n → (∀ j, i ≤ j → j < n → f (T j) = some (.next (T (j + 1)))) → f (T n) = some (.done x) → At f (T i) = some x from
    fun n h1 h2 => h n 0 n (by omega) (fun j _ hj => h1 j hj) h2
  intro k
  induction k with
  | zero =>
    intro i n hi _ h2
    have hin : n = i := by omega
    subst hin; exact A4 h2
  | succ k ih => intro i n hi h1 h2; rw [Br (h1 i (Nat.le_refl _) (by omega))]; exact ih (i + 1) n (by omega) (fun j hj hj' => h1 j (by omega) hj') h2
theorem S3 {S X : Type} (f : S → Option (LR S X)) (T : Nat → S) : ∀ (n : Nat), (∀ i, i < n → f (T i) = some (.next (T (i + 1)))) → At f (T 0) = At f (T n) := by
  intro n
  induction n with
  | zero => intro _; rfl
  | succ n ih => intro h; rw [ih (fun i hi => h i (by omega)), Br (h n (by omega))]
theorem G8 {S X : Type} (f : S → Option (LR S X)) (T : Nat → S) (p : Nat → Bool) (yes no : X) (n : Nat) (hn : ∀ i, i < n → p i = true → f (T i) = some (.next (T (i + 1)))) (hf : ∀ i, i < n → p i = false → f (T i) = some (.done no))
    (he : f (T n) = some (.done yes)) : At f (T 0) = some (bif (List.range n).all p then yes else no) := by
  cases hall : (List.range n).all p with
  | true =>
    rw [cond_true]; exact Dg f T yes n (fun i hi => hn i hi (List.all_eq_true.1 hall i (List.mem_range.2 hi))) he
  | false =>
    rw [cond_false]
    have hex : ∃ i, i < n ∧ p i = false := by
      have : ¬ ∀ i ∈ List.range n, p i = true := fun h => by rw [List.all_eq_true.2 h] at hall; cases hall
      simpa using this
    let P : Nat → Prop := fun m => m < n ∧ p m = false
    obtain ⟨m, hm⟩ := hex
    have key : ∀ m, m < n → p m = false → ∃ k, k < n ∧ p k = false ∧ ∀ j, j < k → p j = true := by
      intro m
      induction m using Nat.strongRecOn with
      | ind m ih =>
        intro h1 h2
        by_cases h : ∃ j, j < m ∧ p j = false
        · obtain ⟨j, hj, hpj⟩ := h; exact ih j hj (by omega) hpj
        · refine ⟨m, h1, h2, fun j hj => ?_⟩
          cases hpj : p j with
          | true => rfl
          | false => exact (h ⟨j, hj, hpj⟩).elim
    obtain ⟨k, hk, hpk, hlt⟩ := key m hm.1 hm.2; rw [S3 f T k (fun i hi => hn i (by omega) (hlt i hi))]; exact A4 (hf k hk hpk)
theorem all_range {n : Nat} {p : Nat → Bool} : (List.range n).all p = true ↔ ∀ i, i < n → p i = true := by
  rw [List.all_eq_true]; exact ⟨fun h i hi => h i (List.mem_range.2 hi), fun h i hi => h i (List.mem_range.1 hi)⟩
theorem Aq (i : Nat) : ((i : Int)).toNat = i := Int.toNat_natCast i
theorem w1 {i : Nat} (h : i < 4611686018427387904) : Bi ((i : Int) + 1) = ((i + 1 : Nat) : Int) := by rw [Kd (by omega) (by omega)]; omega
theorem C4 {i n : Nat} (h : i < n) : decide (((i : Nat) : Int) < ((n : Nat) : Int)) = true := by simpa using h
theorem Eg {n : Nat} : decide (((n : Nat) : Int) < ((n : Nat) : Int)) = false := by simp
theorem D5 {i n : Nat} (h : i < n) : A5 ((i : Nat) : Int) n := inB_nat h
theorem inbz {x : Int} {n : Nat} (h0 : 0 ≤ x) (h1 : x < n) : A5 x n := ⟨h0, h1⟩
def okAt (n : Nat) (l : List Int) (i : Nat) : Bool := decide ((if i = 0 then (-1 : Int) else l.getD (i - 1) 0) < l.getD i 0) && (decide (0 ≤ l.getD i 0) && decide (l.getD i 0 < n))
def okL (n : Nat) (l : List Int) : Bool := (List.range l.length).all (okAt n l)
def Et (L : List (List Int)) : Bool := decide (1 ≤ L.length) && decide (L.length ≤ 64) && (List.range L.length).all fun i => okL L.length (L.getD i [])
def M1 (L : List (List Int)) (k i : Nat) : Bool := (L.getD k []).contains (i : Int)
def Ep (L : List (List Int)) (m i : Nat) : List Int := ((List.range m).filter fun k => M1 L k i).map Int.ofNat
def D4 (L : List (List Int)) : List (List Int) := (List.range L.length).map (Ep L L.length)
theorem L4 (a n : Int) : Ei a n = some (decide (0 ≤ a) && decide (a < n)) := by
  unfold Ei
  cases decide ((0 : Int) ≤ a) <;> rfl
theorem m_isCount (n : Nat) : Fa (n : Int) = some (decide (1 ≤ n) && decide (n ≤ 64)) := by
  unfold Fa
  have h1 : decide ((1 : Int) ≤ (n : Int)) = decide (1 ≤ n) := by apply decide_eq_decide.2; omega
  have h2 : decide ((n : Int) ≤ (64 : Int)) = decide (n ≤ 64) := by apply decide_eq_decide.2; omega
  rw [h1, h2]
  cases decide (1 ≤ n) <;> rfl
theorem Ry (L : List (List Int)) (i : Nat) (hl : (L.getD i []).length < 4611686018427387904) :
    At (B3 L (i : Int)) ((-1 : Int), (0 : Int)) = some (bif okL L.length (L.getD i []) then .inl () else .inr false) := by
  refine G8 (B3 L (i : Int)) (fun j => ((if j = 0 then (-1 : Int) else (L.getD i []).getD (j - 1) 0), ((j : Nat) : Int))) (okAt L.length (L.getD i [])) (.inl ()) (.inr false) _ (fun j hj hp => ?_) (fun j hj hp => ?_) ?_
  · unfold okAt at hp; simp only [Bool.and_eq_true, decide_eq_true_eq] at hp; obtain ⟨h1, h2, h3⟩ := hp
    show B3 L (i : Int) (_, _) = _
    unfold B3; simp only [Aq, C4 hj, cond_true, L4]; rw [Ac (D5 hj)]
    have e1 : decide ((L.getD i []).getD j 0 ≤ (if j = 0 then (-1 : Int) else (L.getD i []).getD (j - 1) 0)) = false := by simpa using h1
    simp only [e1, decide_eq_true h2, decide_eq_true h3, Bool.and_self, beq_self_eq_true, cond_true, cond_false, Option.bind_some, Bool.not_true]; rw [w1 (show j < 4611686018427387904 by omega)]
    simp
  · show B3 L (i : Int) (_, _) = _
    unfold B3; simp only [Aq, C4 hj, cond_true, L4]; rw [Ac (D5 hj)]
    cases h1 : decide ((L.getD i []).getD j 0 ≤ (if j = 0 then (-1 : Int) else (L.getD i []).getD (j - 1) 0)) with
    | true => simp only [cond_true, show ((true == false) = false) from rfl, cond_false, Option.bind_some]
    | false =>
      have h1' : decide ((if j = 0 then (-1 : Int) else (L.getD i []).getD (j - 1) 0) < (L.getD i []).getD j 0) = true := by simpa using h1
      unfold okAt at hp; rw [h1', Bool.true_and] at hp; simp only [beq_self_eq_true, cond_true, cond_false, Option.bind_some, hp, Bool.not_false]
  · show B3 L (i : Int) (_, _) = _
    unfold B3; simp only [Aq, Eg, cond_false]
def Fits (L : List (List Int)) : Prop := L.length < 4611686018427387904 ∧ ∀ l ∈ L, l.length < 4611686018427387904
theorem Fits.at {L : List (List Int)} (h : Fits L) (i : Nat) : (L.getD i []).length < 4611686018427387904 := by
  by_cases hi : i < L.length
  · exact h.2 _ (E9 hi)
  · rw [List.getD_eq_getElem?_getD, List.getElem?_eq_none (by omega)]; simp
theorem Ub (L : List (List Int)) (h : Fits L) : Ej L = some (Et L) := by
  unfold Ej; rw [m_isCount, Option.bind_some]; unfold Et
  cases hc : (decide (1 ≤ L.length) && decide (L.length ≤ 64)) with
  | false => rfl
  | true =>
    simp only [Bool.not_true, cond_false, Bool.true_and]; have := G8 (B5 L) (fun j => ((j : Nat) : Int)) (fun i => okL L.length (L.getD i [])) (.inl ()) (.inr false) L.length (fun j hj hp => ?_) (fun j hj hp => ?_) ?_
    · rw [show At (B5 L) (0 : Int) = _ from this]
      cases (List.range L.length).all fun i => okL L.length (L.getD i []) <;> rfl
    · show B5 L (j : Int) = _
      unfold B5; simp only [C4 hj, cond_true]; rw [Ac (D5 hj), Ry L j (h.at j), hp]; simp only [cond_true, Option.bind_some, w1 (show j < 4611686018427387904 by have := h.1; omega)]
    · show B5 L (j : Int) = _
      unfold B5; simp only [C4 hj, cond_true]; rw [Ac (D5 hj), Ry L j (h.at j), hp]
      rfl
    · show B5 L _ = _
      unfold B5; simp only [Eg, cond_false]
end
end Go.Proofs.Ytjpacggpipflcaa

namespace Go.Proofs.Ytjpacggpipflcaa
noncomputable section
open Go Go.RowKit
set_option linter.unusedVariables false
set_option linter.unusedSimpArgs false
theorem Ix {α : Type} {n i : Nat} {g : Nat → α} {d : α} (h : i < n) : ((List.range n).map g).getD i d = g i := by simp [List.getD, h]
theorem Pf {α : Type} {n i : Nat} {g : Nat → α} {x : α} : ((List.range n).map g).set i x = (List.range n).map fun j => if j = i then x else g j := by
  apply List.ext_getElem?
  intro j; rw [List.getElem?_set]
  by_cases hj : j < n
  · by_cases hij : i = j
    · subst hij; simp [hj]
    · simp [hij, hj, Ne.symm hij]
  · simp [hj]; intro h; omega
theorem Gv {α : Type} {n : Nat} {g h : Nat → α} (H : ∀ i, i < n → g i = h i) : (List.range n).map g = (List.range n).map h := List.map_congr_left fun i hi => H i (List.mem_range.1 hi)
theorem mayS_iff {L : List (List Int)} : Et L = true ↔ 1 ≤ L.length ∧ L.length ≤ 64 ∧ ∀ i, i < L.length → okL L.length (L.getD i []) = true := by
  unfold Et; rw [Bool.and_eq_true, Bool.and_eq_true, all_range]; simp only [decide_eq_true_eq]; exact ⟨fun ⟨⟨a, b⟩, c⟩ => ⟨a, b, c⟩, fun ⟨a, b, c⟩ => ⟨⟨a, b⟩, c⟩⟩
theorem okL_iff {n : Nat} {l : List Int} : okL n l = true ↔ ∀ i, i < l.length → (0 ≤ l.getD i 0 ∧ l.getD i 0 < n) ∧ (0 < i → l.getD (i - 1) 0 < l.getD i 0) := by
  unfold okL; rw [all_range]; unfold okAt; simp only [Bool.and_eq_true, decide_eq_true_eq]
  constructor
  · intro h i hi; obtain ⟨h1, h2, h3⟩ := h i hi; refine ⟨⟨h2, h3⟩, fun hp => ?_⟩; rwa [if_neg (by omega)] at h1
  · intro h i hi; obtain ⟨⟨h2, h3⟩, h1⟩ := h i hi; refine ⟨?_, h2, h3⟩
    by_cases hz : i = 0
    · rw [if_pos hz]; omega
    · rw [if_neg hz]; exact h1 (by omega)
section
variable {n : Nat} {l : List Int} (h : okL n l = true)
include h
theorem Nq {i : Nat} (hi : i < l.length) : 0 ≤ l.getD i 0 ∧ l.getD i 0 < n := (okL_iff.1 h i hi).1
theorem Yv {i j : Nat} (hij : i < j) (hj : j < l.length) : l.getD i 0 < l.getD j 0 := by
  induction j with
  | zero => omega
  | succ j ih =>
    have h1 := (okL_iff.1 h (j + 1) hj).2 (by omega); rw [show j + 1 - 1 = j by omega] at h1
    by_cases he : i = j
    · rw [he]; exact h1
    · exact Int.lt_trans (ih (by omega) (by omega)) h1
theorem okL_ge {i : Nat} (hi : i < l.length) : (i : Int) ≤ l.getD i 0 := by
  induction i with
  | zero => exact (Nq h hi).1
  | succ i ih =>
    have := Yv h (show i < i + 1 by omega) hi; have := ih (by omega); omega
theorem H4 : l.length ≤ n := by
  by_cases hz : l.length = 0
  · omega
  · have h1 := okL_ge h (show l.length - 1 < l.length by omega); have h2 := (Nq h (show l.length - 1 < l.length by omega)).2; omega
theorem F9 {x : Int} (hx : x ∈ l) : 0 ≤ x ∧ x < n := by
  obtain ⟨i, hi, rfl⟩ := List.getElem_of_mem hx; have := Nq h hi; rwa [Ag _ _ _ hi] at this
theorem Wz : l.Pairwise (· < ·) := by
  rw [List.pairwise_iff_getElem]; intro i j hi hj hij; have := Yv h hij hj; rwa [Ag _ _ _ hi, Ag _ _ _ hj] at this
end
theorem okL_of {n : Nat} {l : List Int} (h1 : ∀ x ∈ l, 0 ≤ x ∧ x < n) (h2 : l.Pairwise (· < ·)) : okL n l = true := by
  rw [okL_iff]; intro i hi; rw [Ag _ _ _ hi]; refine ⟨h1 _ (List.getElem_mem hi), fun hp => ?_⟩; rw [Ag _ _ _ (show i - 1 < l.length by omega)]; exact (List.pairwise_iff_getElem.1 h2) _ _ _ _ (by omega)
theorem Ml {L : List (List Int)} (h : Et L = true) : L.length ≤ 64 ∧ ∀ l ∈ L, l.length ≤ 64 := by
  obtain ⟨h1, h2, h3⟩ := mayS_iff.1 h; refine ⟨h2, fun l hl => ?_⟩; obtain ⟨i, hi, rfl⟩ := List.getElem_of_mem hl; have := H4 (h3 i hi); rw [Ag _ _ _ hi] at this; omega
theorem Ql {L : List (List Int)} (h : L.length ≤ 1000 ∧ ∀ l ∈ L, l.length ≤ 1000) : Fits L := ⟨by omega, fun l hl => by have := h.2 l hl; omega⟩
theorem m_clone (l : List Int) (h : l.length ≤ room) : Df l = some l := by
  unfold Df; rw [Ac (by simpa using h)]
  simp
theorem m_copied (L : List (List Int)) (h : L.length ≤ 1000 ∧ ∀ l ∈ L, l.length ≤ 1000) : Fi L = some L := by
  have hroom : (1000 : Nat) ≤ room := by decide
  unfold Fi; rw [Ac ⟨by omega, Int.le_refl _, by omega⟩, Aq]; have : At (C2 L) ((0 : Int), (List.range L.length).map fun i => if i < 0 then L.getD i [] else []) = some L := Dg (C2 L) (fun j => (((j : Nat) : Int), (List.range L.length).map fun i => if i < j then L.getD i [] else [])) L L.length (fun j hj => ?_) ?_
  · have e0 : (List.replicate L.length ([] : List Int)) = (List.range L.length).map fun i => if i < 0 then L.getD i [] else [] := by
      apply List.ext_getElem?
      intro i
      by_cases hi : i < L.length <;> simp [hi, List.getElem?_replicate]
    rw [e0, this]; rfl
  · show C2 L (_, _) = _
    unfold C2; simp only [Aq, C4 hj, cond_true]; rw [Ac (D5 hj), m_clone _ (by have := h.2 _ (E9 (d := []) hj); omega), Option.bind_some, Ac (D5 (by simpa using hj)), Pf, w1 (by omega)]
    congr 3
    apply Gv
    intro i hi
    by_cases h1 : i = j
    · subst h1; simp
    · by_cases h2 : i < j
      · simp [h1, h2, show i < j + 1 by omega]
      · simp [h1, h2, show ¬ i < j + 1 by omega]
  · show C2 L (_, _) = _
    unfold C2; simp only [Eg, cond_false]
    congr 2
    apply List.ext_getElem?
    intro i
    by_cases hi : i < L.length
    · simp [hi]
    · simp [hi]
theorem Xm (L : List (List Int)) (k i : Nat) : Ep L (k + 1) i = Ep L k i ++ (if M1 L k i = true then [(k : Int)] else []) := by
  unfold Ep; rw [List.range_succ, List.filter_append, List.map_append]
  congr 1
  cases hg : M1 L k i <;> simp [hg]
theorem Kf (L : List (List Int)) (k i : Nat) : (Ep L k i).length ≤ k := by
  unfold Ep; rw [List.length_map]; have := List.length_filter_le (fun k => M1 L k i) (List.range k)
  simpa using this
theorem Ou {l : List Int} {j : Nat} (hj : j < l.length) : l.take (j + 1) = l.take j ++ [l.getD j 0] := by
  rw [Ag _ _ _ hj, List.take_succ_eq_append_getElem hj]
def Je (L : List (List Int)) (k j i : Nat) : Bool := ((L.getD k []).take j).contains (i : Int)
def Fn (L : List (List Int)) (k j : Nat) : List (List Int) := (List.range L.length).map fun i => Ep L k i ++ (if Je L k j i = true then [(k : Int)] else [])
theorem Wg (L : List (List Int)) (h : Et L = true) (k j : Nat) (hk : k < L.length) (hj : j < (L.getD k []).length) :
    (Fn L k j).set ((L.getD k []).getD j 0).toNat ((Fn L k j).getD ((L.getD k []).getD j 0).toNat [] ++ [(k : Int)]) = Fn L k (j + 1) := by
  obtain ⟨h1, h2, h3⟩ := mayS_iff.1 h; have hok := h3 k hk; obtain ⟨a0, a1⟩ := Nq hok hj; unfold Fn; rw [Ix (by omega), Pf]
  apply Gv
  intro i hi
  have hnot : Je L k j ((L.getD k []).getD j 0).toNat = false := by
    unfold Je; rw [Int.toNat_of_nonneg a0]
    cases hc : ((L.getD k []).take j).contains ((L.getD k []).getD j 0) with
    | false => rfl
    | true =>
      rw [List.contains_iff_mem] at hc; obtain ⟨m, hm, he⟩ := List.getElem_of_mem hc
      have hm' : m < j := by simp at hm; omega
      rw [List.getElem_take] at he; have := Yv hok hm' hj; rw [Ag _ _ _ (show m < (L.getD k []).length by omega), he] at this; omega
  by_cases hi2 : i = ((L.getD k []).getD j 0).toNat
  · rw [if_pos hi2, hnot]
    have : Je L k (j + 1) i = true := by
      unfold Je; rw [Ou hj, List.contains_iff_mem, hi2, Int.toNat_of_nonneg a0]
      simp
    rw [this, hi2]
    simp
  · rw [if_neg hi2]
    have : Je L k (j + 1) i = Je L k j i := by
      unfold Je; rw [Ou hj, Bool.eq_iff_iff, List.contains_iff_mem, List.contains_iff_mem, List.mem_append]
      constructor
      · rintro (hm | hm)
        · exact hm
        · simp only [List.mem_singleton] at hm; exact (hi2 (by omega)).elim
      · exact .inl
    rw [this]
theorem X5 (L : List (List Int)) (h : Et L = true) : Eu L = some (D4 L) := by
  obtain ⟨h1, h2, h3⟩ := mayS_iff.1 h
  have hroom : (1000 : Nat) ≤ room := by decide
  unfold Eu; rw [Ac ⟨by omega, Int.le_refl _, by omega⟩, Aq]
  have inner : ∀ k, k < L.length → At (C3 L (k : Int)) ((0 : Int), Fn L k 0) = some (Fn L k (L.getD k []).length) := fun k hk => by
    have hok := h3 k hk; refine Dg (C3 L (k : Int)) (fun j => (((j : Nat) : Int), Fn L k j)) (Fn L k (L.getD k []).length) (L.getD k []).length (fun j hj => ?_) ?_
    · obtain ⟨a0, a1⟩ := Nq hok hj
      have hlen : (Fn L k j).length = L.length := by simp [Fn]
      have hl64 := H4 hok
      show C3 L (k : Int) (_, _) = _
      unfold C3; simp only [Aq, C4 hj, cond_true]; have hb : A5 ((L.getD k []).getD j 0) (Fn L k j).length := ⟨a0, by rw [hlen]; exact a1⟩
      have hrow : ((Fn L k j).getD ((L.getD k []).getD j 0).toNat []).length ≤ k + 1 := by
        unfold Fn; rw [Ix (by omega), List.length_append]; have := Kf L k ((L.getD k []).getD j 0).toNat
        split
        · rw [List.length_singleton]; omega
        · rw [List.length_nil]; omega
      rw [Ac (D5 hj), Ac hb, Ac hb, Ac (by simp only [List.length_singleton]; omega), Ac hb, Wg L h k j hk hj, w1 (by omega)]
    · show C3 L (k : Int) (_, _) = _
      unfold C3; simp only [Aq, Eg, cond_false]
  have r0 : ∀ k, Fn L k 0 = (List.range L.length).map (Ep L k) := fun k => by
    unfold Fn
    apply Gv
    intro i _; simp [Je]
  have r1 : ∀ k, Fn L k (L.getD k []).length = (List.range L.length).map (Ep L (k + 1)) := fun k => by
    unfold Fn
    apply Gv
    intro i _; rw [Xm]; unfold Je M1; rw [List.take_length]
  have : At (C1 L) ((0 : Int), (List.range L.length).map (Ep L 0)) = some (D4 L) := Dg (C1 L) (fun k => (((k : Nat) : Int), (List.range L.length).map (Ep L k))) (D4 L) L.length (fun k hk => ?_) ?_
  · have e0 : (List.replicate L.length ([] : List Int)) = (List.range L.length).map (Ep L 0) := by
      apply List.ext_getElem?
      intro i
      by_cases hi : i < L.length <;> simp [hi, List.getElem?_replicate, Ep]
    rw [e0, this]; rfl
  · show C1 L (_, _) = _
    unfold C1; simp only [C4 hk, cond_true]; rw [Ac (D5 hk), ← r0, inner k hk, r1, w1 (by omega)]
    rfl
  · show C1 L (_, _) = _
    unfold C1; simp only [Eg, cond_false]
    rfl
end
end Go.Proofs.Ytjpacggpipflcaa

namespace Go.Proofs.Ytjpacggpipflcaa
noncomputable section
open Go Go.RowKit
set_option linter.unusedVariables false
set_option linter.unusedSimpArgs false
theorem Lb {α : Type} [DecidableEq α] {a b : List α} {d : α} (h : a.length = b.length) : ((List.range a.length).all fun i => decide (a.getD i d = b.getD i d)) = decide (a = b) := by
  rw [Bool.eq_iff_iff, all_range, decide_eq_true_eq]
  constructor
  · intro hall
    apply List.ext_getElem h
    intro i h1 h2; have := of_decide_eq_true (hall i h1); rwa [Ag _ _ _ h1, Ag _ _ _ h2] at this
  · rintro rfl i _
    simp
theorem Vb {a b : Nat} : (((a : Nat) : Int) != (b : Int)) = decide (a ≠ b) := by
  rw [Bool.eq_iff_iff, bne_iff_ne, decide_eq_true_eq]; omega
theorem Vd {a b : Int} : (a != b) = !decide (a = b) := by
  rw [Bool.eq_iff_iff]
  simp
theorem m_equal (a b : List Int) (hb : b.length < 4611686018427387904) : Dh a b = some (decide (a = b)) := by
  unfold Dh; rw [Vb]
  by_cases hl : a.length = b.length
  · rw [decide_eq_false (by simpa using hl), cond_false]; have : At (A7 a b) (0 : Int) = _ := G8 (A7 a b) (fun j => ((j : Nat) : Int)) (fun i => decide (a.getD i 0 = b.getD i 0)) (.inl ()) (.inr false) a.length (fun j hj hp => ?_) (fun j hj hp => ?_) ?_
    · rw [this, Lb hl]
      cases decide (a = b) <;> rfl
    · show A7 a b (j : Int) = _
      unfold A7; simp only [Aq, C4 hj, cond_true]; rw [Ac (D5 hj), Ac (D5 (by omega)), Vd, hp, w1 (by omega)]
      rfl
    · show A7 a b (j : Int) = _
      unfold A7; simp only [Aq, C4 hj, cond_true]; rw [Ac (D5 hj), Ac (D5 (by omega)), Vd, hp]
      rfl
    · show A7 a b _ = _
      unfold A7; simp only [Eg, cond_false]
  · rw [decide_eq_true (by simpa using hl), cond_true, decide_eq_false (fun h => hl (by rw [h]))]
theorem m_ints (a b : List Int) (ha : a.length < 4611686018427387904) : Cs a b = some (decide (a = b)) := by
  unfold Cs; rw [Vb]
  by_cases hl : a.length = b.length
  · rw [decide_eq_false (by simpa using hl), cond_false]; have : At (Bj a b) (0 : Int) = _ := G8 (Bj a b) (fun j => ((j : Nat) : Int)) (fun i => decide (a.getD i 0 = b.getD i 0)) (.inl ()) (.inr false) a.length (fun j hj hp => ?_) (fun j hj hp => ?_) ?_
    · rw [this, Lb hl]
      cases decide (a = b) <;> rfl
    · show Bj a b (j : Int) = _
      unfold Bj; simp only [Aq, C4 hj, cond_true]; rw [Ac (D5 hj), Ac (D5 (by omega)), Vd, hp, w1 (by omega)]
      rfl
    · show Bj a b (j : Int) = _
      unfold Bj; simp only [Aq, C4 hj, cond_true]; rw [Ac (D5 hj), Ac (D5 (by omega)), Vd, hp]
      rfl
    · show Bj a b _ = _
      unfold Bj; simp only [Eg, cond_false]
  · rw [decide_eq_true (by simpa using hl), cond_true, decide_eq_false (fun h => hl (by rw [h]))]
theorem Xc (a b : List (List Int)) (hb : Fits b) : Bw a b = some (decide (a = b)) := by
  unfold Bw; rw [Vb]
  by_cases hl : a.length = b.length
  · rw [decide_eq_false (by simpa using hl), cond_false]; have hb1 := hb.1; have : At (As a b) (0 : Int) = _ := G8 (As a b) (fun j => ((j : Nat) : Int)) (fun i => decide (a.getD i [] = b.getD i [])) (.inl ()) (.inr false) a.length (fun j hj hp => ?_) (fun j hj hp => ?_) ?_
    · rw [this, Lb hl]
      cases decide (a = b) <;> rfl
    · show As a b (j : Int) = _
      unfold As; simp only [Aq, C4 hj, cond_true]; rw [Ac (D5 hj), Ac (D5 (by omega)), m_equal _ _ (hb.at j), hp, w1 (by omega)]
      rfl
    · show As a b (j : Int) = _
      unfold As; simp only [Aq, C4 hj, cond_true]; rw [Ac (D5 hj), Ac (D5 (by omega)), m_equal _ _ (hb.at j), hp]
      rfl
    · show As a b _ = _
      unfold As; simp only [Eg, cond_false]
  · rw [decide_eq_true (by simpa using hl), cond_true, decide_eq_false (fun h => hl (by rw [h]))]
theorem Kg (L : List (List Int)) : (D4 L).length = L.length := by simp [D4]
theorem O4 {L : List (List Int)} {i : Nat} (hi : i < L.length) : (D4 L).getD i [] = Ep L L.length i := by unfold D4; rw [Ix hi]
theorem Oj {L : List (List Int)} (h : Et L = true) : (D4 L).length ≤ 64 ∧ ∀ l ∈ D4 L, l.length ≤ 64 := by
  obtain ⟨h1, _⟩ := Ml h; refine ⟨by rw [Kg]; exact h1, fun l hl => ?_⟩; obtain ⟨i, hi, rfl⟩ := List.mem_map.1 hl; have := Kf L L.length i; omega
theorem Ka {L : List (List Int)} (h : L.length ≤ 64 ∧ ∀ l ∈ L, l.length ≤ 64) : Fits L := Ql ⟨by omega, fun l hl => by have := h.2 l hl; omega⟩
theorem small_k {L : List (List Int)} (h : L.length ≤ 64 ∧ ∀ l ∈ L, l.length ≤ 64) : L.length ≤ 1000 ∧ ∀ l ∈ L, l.length ≤ 1000 := ⟨by omega, fun l hl => by have := h.2 l hl; omega⟩
def Hw (g : An) : Bool := Et g.Succ && decide (g.Pred = D4 g.Succ)
theorem m_may (g : An) (h : Fits g.Succ) : Gk g = some (Hw g) := by
  unfold Gk Hw; rw [Ub _ h, Option.bind_some]
  cases hm : Et g.Succ with
  | false => rfl
  | true =>
    simp only [beq_self_eq_true, cond_true, X5 _ hm, Option.bind_some, Xc _ _ (Ka (Oj hm)), Bool.true_and]
def Gz (L : List (List Int)) : An := ⟨L, D4 L⟩
def g0 : An := ⟨[], []⟩
theorem Yy (L : List (List Int)) (h : Fits L) : Em L = some (bif Et L then (Gz L, 0) else (g0, 5)) := by
  unfold Em; rw [Ub _ h, Option.bind_some]
  cases hm : Et L with
  | false => rfl
  | true =>
    simp only [Bool.not_true, cond_false, m_copied _ (small_k (Ml hm)), X5 _ hm, Option.bind_some]
    rfl
theorem Od {L : List (List Int)} (h : Et L = true) : Hw (Gz L) = true := by simp [Hw, Gz, h]
end
end Go.Proofs.Ytjpacggpipflcaa

namespace Go.Proofs.Ytjpacggpipflcaa
noncomputable section
open Go Go.RowKit
set_option linter.unusedVariables false
set_option linter.unusedSimpArgs false
theorem N3 {R : Type} {c : Bool} {q : Prop} [Decidable q] {k : Option R} (h : q) : Ce (c = true → q) k = k := Ac fun _ => h
theorem N4 {L : List (List Int)} (h : Et L = true) : Fits (Gz L).Succ ∧ Fits (Gz L).Pred := ⟨Ka (Ml h), Ka (Oj h)⟩
def Sv (L : List (List Int)) : Bool := (List.range L.length).all fun i => decide ((L.getD i []).length ≤ 100) && decide (i ≤ 100)
theorem m_small (L : List (List Int)) (hL : L.length < 9223372036854775808) : Dr L = some (Sv L) := by
  unfold Dr
  have step : ∀ j : Nat, j < L.length → Bg L (j : Int) = bif (decide ((L.getD j []).length ≤ 100) && decide (j ≤ 100)) then some (.next (((j + 1 : Nat) : Int))) else some (.done (.inr false)) := fun j hj => by
    unfold Bg; simp only [Aq, C4 hj, cond_true]; rw [Ac (D5 hj)]
    have hw : Bi ((j : Int) + 1) = ((j + 1 : Nat) : Int) := by rw [Kd (by omega) (by omega)]; omega
    rw [hw]
    by_cases h1 : (L.getD j []).length ≤ 100
    · rw [decide_eq_true h1, decide_eq_false (show ¬ (100 : Int) < ((L.getD j []).length : Int) by omega)]
      by_cases h2 : j ≤ 100
      · rw [decide_eq_true h2, decide_eq_false (show ¬ (100 : Int) < (j : Int) by omega)]; rfl
      · rw [decide_eq_false h2, decide_eq_true (show (100 : Int) < (j : Int) by omega)]; rfl
    · rw [decide_eq_false h1, decide_eq_true (show (100 : Int) < ((L.getD j []).length : Int) by omega)]; rfl
  have : At (Bg L) (0 : Int) = _ := G8 (Bg L) (fun j => ((j : Nat) : Int)) (fun i => decide ((L.getD i []).length ≤ 100) && decide (i ≤ 100)) (.inl ()) (.inr false) L.length (fun j hj hp => ?_) (fun j hj hp => ?_) ?_
  · rw [this]; unfold Sv
    cases (List.range L.length).all fun i => decide ((L.getD i []).length ≤ 100) && decide (i ≤ 100) <;> rfl
  · show Bg L (j : Int) = _
    rw [step j hj, hp]; rfl
  · show Bg L (j : Int) = _
    rw [step j hj, hp]; rfl
  · show Bg L _ = _
    unfold Bg; simp only [Eg, cond_false]
theorem X2 {L : List (List Int)} (h : Sv L = true) : Fits L := by
  unfold Sv at h; rw [all_range] at h; simp only [Bool.and_eq_true, decide_eq_true_eq] at h; refine Ql ⟨?_, fun l hl => ?_⟩
  · by_cases h0 : L.length = 0
    · omega
    · have := (h (L.length - 1) (by omega)).2; omega
  · obtain ⟨i, hi, rfl⟩ := List.getElem_of_mem hl; have := (h i hi).1; rw [Ag _ _ _ hi] at this; omega
end
end Go.Proofs.Ytjpacggpipflcaa

namespace Go.Proofs.Ytjpacggpipflcaa
noncomputable section
open Go Go.RowKit
set_option linter.unusedVariables false
set_option linter.unusedSimpArgs false
def upd (s : Nat → Bool) (y : Nat) : Nat → Bool := fun z => decide (z = y) || s z
theorem upd_true {s : Nat → Bool} {y z : Nat} : upd s y z = true ↔ z = y ∨ s z = true := by simp [upd]
theorem upd_false {s : Nat → Bool} {y z : Nat} : upd s y z = false ↔ z ≠ y ∧ s z = false := by simp [upd]
inductive VL (S : Nat → List Nat) : (Nat → Bool) → List Nat → (Nat → Bool) → List Nat → Prop
  | nil (s : Nat → Bool) : VL S s [] s []
  | skip {s s' : Nat → Bool} {y : Nat} {l o : List Nat} (h : s y = true) (t : VL S s l s' o) : VL S s (y :: l) s' o
  | step {s s1 s2 : Nat → Bool} {y : Nat} {l o1 o2 : List Nat} (h : s y = false) (a : VL S (upd s y) (S y) s1 o1) (b : VL S s1 l s2 o2) : VL S s (y :: l) s2 (o1 ++ y :: o2)
inductive Rch (S : Nat → List Nat) : Nat → Nat → Prop
  | refl (x : Nat) : Rch S x x
  | head {x y z : Nat} (h : y ∈ S x) (t : Rch S y z) : Rch S x z
theorem Rch.tail {S : Nat → List Nat} {x y z : Nat} (h : Rch S x y) (hz : z ∈ S y) : Rch S x z := by
  induction h with
  | refl x => exact .head hz (.refl _)
  | head h _ ih => exact .head h (ih hz)
theorem Rch.trans {S : Nat → List Nat} {x y z : Nat} (h : Rch S x y) (k : Rch S y z) : Rch S x z := by
  induction h with
  | refl x => exact k
  | head h _ ih => exact .head h (ih k)
variable {S : Nat → List Nat} {s s' : Nat → Bool} {l o : List Nat}
theorem VL.seen (h : VL S s l s' o) (z : Nat) : s' z = true ↔ s z = true ∨ z ∈ o := by
  induction h with
  | nil s => simp
  | skip h _ ih => exact ih
  | @step s s1 s2 y l o1 o2 h a b iha ihb =>
    rw [ihb, iha, upd_true]; simp only [List.mem_append, List.mem_cons]
    constructor
    · rintro ((( rfl | h1) | h1) | h1)
      · exact .inr (.inr (.inl rfl))
      · exact .inl h1
      · exact .inr (.inl h1)
      · exact .inr (.inr (.inr h1))
    · rintro (h1 | h1 | rfl | h1)
      · exact .inl (.inl (.inr h1))
      · exact .inl (.inr h1)
      · exact .inl (.inl (.inl rfl))
      · exact .inr h1
theorem VL.fresh (h : VL S s l s' o) {z : Nat} (hz : z ∈ o) : s z = false := by
  induction h with
  | nil s => cases hz
  | skip h _ ih => exact ih hz
  | @step s s1 s2 y l o1 o2 h a b iha ihb =>
    rcases List.mem_append.1 hz with h1 | h1
    · exact (upd_false.1 (iha h1)).2
    · rcases List.mem_cons.1 h1 with rfl | h1
      · exact h
      · have := ihb h1
        cases hs : s z with
        | false => rfl
        | true => rw [(a.seen z).2 (.inl (upd_true.2 (.inr hs)))] at this; cases this
theorem VL.nodup (h : VL S s l s' o) : o.Nodup := by
  induction h with
  | nil s => exact List.nodup_nil
  | skip h _ ih => exact ih
  | @step s s1 s2 y l o1 o2 h a b iha ihb =>
    rw [List.nodup_append]; refine ⟨iha, List.nodup_cons.2 ⟨fun hy => ?_, ihb⟩, fun u hu v hv => ?_⟩
    · have := b.fresh hy; rw [(a.seen y).2 (.inl (upd_true.2 (.inl rfl)))] at this
      cases this
    · rintro rfl; rcases List.mem_cons.1 hv with rfl | hv
      · have := a.fresh hu; rw [upd_true.2 (.inl rfl)] at this
        cases this
      · have := b.fresh hv; rw [(a.seen u).2 (.inr hu)] at this
        cases this
theorem VL.rch (h : VL S s l s' o) {z : Nat} (hz : z ∈ o) : ∃ y ∈ l, Rch S y z := by
  induction h with
  | nil s => cases hz
  | skip h _ ih => obtain ⟨y, hy, hr⟩ := ih hz; exact ⟨y, List.mem_cons_of_mem _ hy, hr⟩
  | @step s s1 s2 y l o1 o2 h a b iha ihb =>
    rcases List.mem_append.1 hz with h1 | h1
    · obtain ⟨u, hu, hr⟩ := iha h1; exact ⟨y, List.mem_cons_self .., .head hu hr⟩
    · rcases List.mem_cons.1 h1 with rfl | h1
      · exact ⟨z, List.mem_cons_self .., .refl z⟩
      · obtain ⟨u, hu, hr⟩ := ihb h1; exact ⟨u, List.mem_cons_of_mem _ hu, hr⟩
theorem VL.closed (h : VL S s l s' o) : (∀ y ∈ l, s' y = true) ∧ ∀ z ∈ o, ∀ y ∈ S z, s' y = true := by
  induction h with
  | nil s => exact ⟨(fun _ h => by cases h), (fun _ h => by cases h)⟩
  | @skip s s' y l o h t ih =>
    refine ⟨fun u hu => ?_, ih.2⟩; rcases List.mem_cons.1 hu with rfl | hu
    · exact (t.seen u).2 (.inl h)
    · exact ih.1 u hu
  | @step s s1 s2 y l o1 o2 h a b iha ihb =>
    refine ⟨fun u hu => ?_, fun z hz u hu => ?_⟩
    · rcases List.mem_cons.1 hu with rfl | hu
      · exact (b.seen u).2 (.inl ((a.seen u).2 (.inl (upd_true.2 (.inl rfl)))))
      · exact ihb.1 u hu
    · rcases List.mem_append.1 hz with h1 | h1
      · exact (b.seen u).2 (.inl (iha.2 z h1 u hu))
      · rcases List.mem_cons.1 h1 with rfl | h1
        · exact (b.seen u).2 (.inl (iha.1 u hu))
        · exact ihb.2 z h1 u hu
theorem VL.above (h : VL S s l s' o) (hf : ∀ z, ∀ y ∈ S z, z < y) {b : Nat} (hb : ∀ y ∈ l, b < y) : ∀ z ∈ o, b < z := by
  induction h generalizing b with
  | nil s => intro z hz; cases hz
  | skip h _ ih => exact ih (fun y hy => hb y (List.mem_cons_of_mem _ hy))
  | @step s s1 s2 y l o1 o2 h a c iha ihb =>
    intro z hz; have hy := hb y (List.mem_cons_self ..); rcases List.mem_append.1 hz with h1 | h1
    · exact iha (fun u hu => Nat.lt_trans hy (hf y u hu)) z h1
    · rcases List.mem_cons.1 h1 with rfl | h1
      · exact hy
      · exact ihb (fun u hu => hb u (List.mem_cons_of_mem _ hu)) z h1
theorem VL.ahead (h : VL S s l s' o) (hf : ∀ z, ∀ y ∈ S z, z < y) : ∀ z ∈ o, ∀ y ∈ S z, s y = true ∨ ∃ A B, o = A ++ z :: B ∧ y ∈ A := by
  induction h with
  | nil s => intro z hz; cases hz
  | skip h _ ih => exact ih
  | @step s s1 s2 y l o1 o2 h a c iha ihb =>
    intro z hz u hu; rcases List.mem_append.1 hz with h1 | h1
    · have hzy : y < z := a.above hf (fun v hv => hf y v hv) z h1; have hzu := hf z u hu; rcases iha z h1 u hu with h2 | ⟨A, B, rfl, hA⟩
      · rcases upd_true.1 h2 with rfl | h2
        · omega
        · exact .inl h2
      · exact .inr ⟨A, B ++ y :: o2, by simp, hA⟩
    · rcases List.mem_cons.1 h1 with rfl | h1z
      · have hzu := hf z u hu; rcases (a.seen u).1 (a.closed.1 u hu) with h2 | h2
        · rcases upd_true.1 h2 with rfl | h2
          · omega
          · exact .inl h2
        · exact .inr ⟨o1, o2, rfl, h2⟩
      · rcases ihb z h1z u hu with h2 | ⟨A, B, rfl, hA⟩
        · rcases (a.seen u).1 h2 with h3 | h3
          · rcases upd_true.1 h3 with rfl | h3
            · obtain ⟨P, Q, rfl⟩ := List.append_of_mem h1z; exact .inr ⟨o1 ++ u :: P, Q, by simp, by simp⟩
            · exact .inl h3
          · obtain ⟨P, Q, rfl⟩ := List.append_of_mem h1z; exact .inr ⟨o1 ++ y :: P, Q, by simp, by simp [h3]⟩
        · exact .inr ⟨o1 ++ y :: A, B, by simp, by simp [hA]⟩
def S8 (n : Nat) (s : Nat → Bool) : Nat := ((List.range n).filter fun z => !s z).length
theorem Jx {n : Nat} {s : Nat → Bool} {y : Nat} (hy : y < n) (h : s y = false) : S8 n (upd s y) + 1 = S8 n s := by
  unfold S8
  induction n with
  | zero => omega
  | succ n ih =>
    rw [List.range_succ, List.filter_append, List.filter_append, List.length_append, List.length_append]
    by_cases hyn : y = n
    · subst hyn
      have e : (List.range y).filter (fun z => !upd s y z) = (List.range y).filter (fun z => !s z) := by
        apply List.filter_congr
        intro z hz; have := List.mem_range.1 hz; simp [upd, show z ≠ y by omega]
      rw [e]; simp [upd, h]
    · have := ih (by omega)
      have e : ([n].filter fun z => !upd s y z).length = ([n].filter fun z => !s z).length := by
        simp only [List.filter_cons, List.filter_nil, upd]; simp [Ne.symm hyn]
      omega
theorem Yb {n : Nat} {s s' : Nat → Bool} (h : ∀ z, s z = true → s' z = true) : S8 n s' ≤ S8 n s := by
  unfold S8
  apply List.Sublist.length_le
  have : (List.range n).filter (fun z => !s' z) = ((List.range n).filter fun z => !s z).filter fun z => !s' z := by
    rw [List.filter_filter]
    apply List.filter_congr
    intro z _
    cases hs : s z with
    | false => simp
    | true => simp [h z hs]
  rw [this]; exact List.filter_sublist
theorem VL.exist {n : Nat} (hS : ∀ z, z < n → ∀ y ∈ S z, y < n) : ∀ (m : Nat) (s : Nat → Bool), S8 n s ≤ m → ∀ l : List Nat, (∀ y ∈ l, y < n) → ∃ s' o, VL S s l s' o := by
  intro m
  induction m with
  | zero =>
    intro s hm l
    induction l with
    | nil => intro _; exact ⟨s, [], .nil s⟩
    | cons y l ih =>
      intro hl; obtain ⟨s', o, h⟩ := ih (fun z hz => hl z (List.mem_cons_of_mem _ hz))
      cases hy : s y with
      | true => exact ⟨s', o, .skip hy h⟩
      | false => have := Jx (hl y (List.mem_cons_self ..)) hy; omega
  | succ m ih =>
    intro s hm l
    induction l generalizing s with
    | nil => intro _; exact ⟨s, [], .nil s⟩
    | cons y l ihl =>
      intro hl
      cases hy : s y with
      | true =>
        obtain ⟨s', o, h⟩ := ihl s hm (fun z hz => hl z (List.mem_cons_of_mem _ hz)); exact ⟨s', o, .skip hy h⟩
      | false =>
        have hyn := hl y (List.mem_cons_self ..); have := Jx hyn hy; obtain ⟨s1, o1, h1⟩ := ih (upd s y) (by omega) (S y) (hS y hyn); have h2 : S8 n s1 ≤ S8 n s := Yb fun z hz => (h1.seen z).2 (.inl (upd_true.2 (.inr hz))); obtain ⟨s2, o2, h3⟩ := ihl s1 (by omega) (fun z hz => hl z (List.mem_cons_of_mem _ hz)); exact ⟨s2, _, .step hy h1 h3⟩
def one (r : Nat) : Nat → Bool := fun z => decide (z = r)
def Ord (S : Nat → List Nat) (r : Nat) (L : List Nat) : Prop := ∃ s' o, VL S (one r) (S r) s' o ∧ L = r :: o.reverse
theorem Ord.exist {n : Nat} (hS : ∀ z, z < n → ∀ y ∈ S z, y < n) {r : Nat} (hr : r < n) : ∃ L, Ord S r L := by
  obtain ⟨s', o, h⟩ := VL.exist hS _ (one r) (Nat.le_refl _) (S r) (hS r hr); exact ⟨_, s', o, h, rfl⟩
theorem Ord.mem {r : Nat} {L : List Nat} (h : Ord S r L) (z : Nat) : z ∈ L ↔ Rch S r z := by
  obtain ⟨s', o, h, rfl⟩ := h
  have hs : ∀ z, s' z = true ↔ z = r ∨ z ∈ o := fun z => by rw [h.seen]; simp [one]
  have hc : ∀ x, s' x = true → ∀ y ∈ S x, s' y = true := fun x hx y hy => by
    rcases (hs x).1 hx with rfl | hx
    · exact h.closed.1 y hy
    · exact h.closed.2 x hx y hy
  simp only [List.mem_cons, List.mem_reverse]; rw [← hs z]
  constructor
  · intro hz; rcases (hs z).1 hz with rfl | hz
    · exact .refl _
    · obtain ⟨y, hy, hr⟩ := h.rch hz; exact .head hy hr
  · intro hr
    have key : ∀ x z, Rch S x z → s' x = true → s' z = true := by
      intro x z hxz
      induction hxz with
      | refl x => exact id
      | head hy _ ih => exact fun hx => ih (hc _ hx _ hy)
    exact key r z hr ((hs r).2 (.inl rfl))
theorem Ord.nodup {r : Nat} {L : List Nat} (h : Ord S r L) : L.Nodup := by
  obtain ⟨s', o, h, rfl⟩ := h; refine List.nodup_cons.2 ⟨fun hr => ?_, (List.reverse_perm o).nodup_iff.2 h.nodup⟩; have := h.fresh (List.mem_reverse.1 hr); simp [one] at this
theorem Ord.fwd {r : Nat} {L : List Nat} (h : Ord S r L) (hf : ∀ z, ∀ y ∈ S z, z < y) : ∀ z ∈ L, ∀ y ∈ S z, ∃ A B, L = A ++ z :: B ∧ y ∈ B := by
  obtain ⟨s', o, h, rfl⟩ := h; intro z hz y hy; have hzy := hf z y hy; rcases List.mem_cons.1 hz with rfl | hz
  · refine ⟨[], o.reverse, rfl, ?_⟩; rcases (h.seen y).1 (h.closed.1 y hy) with h1 | h1
    · simp [one] at h1; omega
    · exact List.mem_reverse.2 h1
  · have hz := List.mem_reverse.1 hz; have hrz : r < z := h.above hf (fun v hv => hf r v hv) z hz; rcases h.ahead hf z hz y hy with h1 | ⟨A, B, rfl, hA⟩
    · simp [one] at h1; omega
    · exact ⟨r :: B.reverse, A.reverse, by simp, List.mem_reverse.2 hA⟩
end
end Go.Proofs.Ytjpacggpipflcaa

namespace Go.Proofs.Ytjpacggpipflcaa
noncomputable section
open Go Go.RowKit
set_option linter.unusedVariables false
set_option linter.unusedSimpArgs false
theorem m_reverse (l : List Int) (hl : l.length < 4611686018427387904) : Cn l = some l.reverse := by
  unfold Cn
  by_cases h0 : l.length = 0
  · obtain rfl : l = [] := List.length_eq_zero_iff.1 h0
    have : At A3 ((0 : Int), (Bi ((([] : List Int).length : Int) - 1)), ([] : List Int)) = some [] := by
      apply A4
      unfold A3; rw [Kd (by simp) (by simp)]
      rfl
    rw [this]; rfl
  · have hw : Bi ((l.length : Int) - 1) = ((l.length - 1 : Nat) : Int) := by rw [Kd (by omega) (by omega)]; omega
    rw [hw]
    let C : Nat → List Int := fun k => (List.range l.length).map fun i => if i < k ∨ l.length - 1 - k < i then l.getD (l.length - 1 - i) 0 else l.getD i 0
    have hC : ∀ k i, i < l.length → (C k).getD i 0 = if i < k ∨ l.length - 1 - k < i then l.getD (l.length - 1 - i) 0 else l.getD i 0 := fun k i hi => by simp only [C]; rw [Ix hi]
    have hlen : ∀ k, (C k).length = l.length := fun k => by simp [C]
    have := Dg A3 (fun k => (((k : Nat) : Int), ((l.length - 1 - k : Nat) : Int), C k)) l.reverse (l.length / 2) (fun k hk => ?_) ?_
    · have e0 : C 0 = l := by
        apply List.ext_getElem (by simp [C])
        intro i h1 h2; have := hC 0 i h2; rw [Ag _ _ _ h1, Ag _ _ _ h2] at this; rw [this, if_neg (by omega)]
      have this' : At A3 ((0 : Int), ((l.length - 1 : Nat) : Int), l) = some l.reverse := by
        have h2 := this; simp only [e0] at h2; exact h2
      rw [this']; rfl
    · show A3 (_, _, _) = _
      unfold A3
      have hlt : k < l.length - 1 - k := by omega
      simp only [C4 hlt, cond_true, Aq]; rw [Ac (D5 (by rw [hlen]; omega)), Ac (D5 (by rw [hlen]; omega)), Ac (D5 (by rw [hlen]; omega)), Ac (D5 (by rw [hlen]; omega))]; rw [w1 (by omega), show Bi (((l.length - 1 - k : Nat) : Int) - 1) = ((l.length - 1 - (k + 1) : Nat) : Int) by rw [Kd (by omega) (by omega)]; omega]
      congr 4
      rw [hC k _ (by omega), hC k _ (by omega), if_neg (by omega), if_neg (by omega)]; simp only [C]; rw [Pf, Pf]
      apply Gv
      intro i hi
      by_cases h1 : i = k
      · subst h1; rw [if_neg (by omega), if_pos rfl, if_pos (by omega)]
      · by_cases h2 : i = l.length - 1 - k
        · subst h2; rw [if_pos rfl, if_pos (by omega)]
          congr 1; omega
        · rw [if_neg h2, if_neg h1]
          by_cases h3 : i < k ∨ l.length - 1 - k < i
          · rw [if_pos h3, if_pos (by omega)]
          · rw [if_neg h3, if_neg (by omega)]
    · show A3 (_, _, _) = _
      unfold A3; have hd : decide (((l.length / 2 : Nat) : Int) < ((l.length - 1 - l.length / 2 : Nat) : Int)) = false := decide_eq_false (by omega); simp only [hd, cond_false]
      congr 2
      apply List.ext_getElem (by simp [C])
      intro i h1 h2
      have h3 : i < l.length := by simpa [C] using h1
      have := hC (l.length / 2) i h3; rw [Ag _ _ _ h1] at this; rw [this, List.getElem_reverse]
      split
      · rw [Ag _ _ _ (by omega)]
      · rw [Ag _ _ _ h3]
        congr 1; omega
theorem top {st : List Int} {a : Int} (h : st.length < 4611686018427387904) : (st ++ [a]).getD (Bi (((st ++ [a]).length : Int) - 1)).toNat 0 = a := by
  have : Bi (((st ++ [a]).length : Int) - 1) = ((st.length : Nat) : Int) := by rw [List.length_append, List.length_singleton, Kd (by omega) (by omega)]; omega
  rw [this, Aq]; simp [List.getD]
theorem topi {st : List Int} {a : Int} (h : st.length < 4611686018427387904) : Bi (((st ++ [a]).length : Int) - 1) = ((st.length : Nat) : Int) := by
  rw [List.length_append, List.length_singleton, Kd (by omega) (by omega)]; omega
theorem L2_done {g : An} {R : List Bool} {st T : List Int} {a : Nat} (hst : st.length < 64) (ha : a < g.Succ.length) (h64 : g.Succ.length ≤ 64) (ht : T.getD a 0 = ((g.Succ.getD a []).length : Int)) :
    Du g R (st ++ [(a : Int)]) T = some (.done (.inl T)) := by
  unfold Du; simp only [top (st := st) (a := (a : Int)) (by omega), Aq]; rw [Ac (D5 (by omega)), Ac (D5 ha), ht, Eg, cond_false]
theorem L2_step {g : An} {R : List Bool} {st T : List Int} {a t y : Nat} (hst : st.length < 64) (ha : a < g.Succ.length) (h64 : g.Succ.length ≤ 64) (ht : T.getD a 0 = (t : Int)) (htl : t < (g.Succ.getD a []).length) (htm : t < 64)
    (hy : (g.Succ.getD a []).getD t 0 = (y : Int)) (hyn : y < g.Succ.length) :
    Du g R (st ++ [(a : Int)]) T = bif R.getD y false then some (.next (Dp 64 (0 : Int) T a ((t + 1 : Nat) : Int))) else some (.done (.inr (Dp 64 false R y true, Dp 64 (0 : Int) T a ((t + 1 : Nat) : Int), (st ++ [(a : Int)]) ++ [(y : Int)]))) := by
  have hroom : (1000 : Nat) ≤ room := by decide
  unfold Du; simp only [top (st := st) (a := (a : Int)) (by omega), Aq, ht, hy]; rw [Ac (D5 (by omega)), Ac (D5 ha), C4 htl, cond_true, Ac (D5 ha), Ac (D5 (by omega)), Ac (D5 htl), Ac (D5 (by omega)), Ac (D5 (by omega)), Ac (D5 (by omega)), w1 (by omega)]
  cases R.getD y false with
  | true => rfl
  | false =>
    simp only [Bool.not_false, cond_true, cond_false]; rw [Ac (D5 (by omega)), Ac (by rw [List.length_append, List.length_singleton, List.length_singleton]; omega)]
theorem F3_eq {g : An} {R : List Bool} {st T Lf : List Int} {a : Nat} (hst : st.length < 64) (hLf : Lf.length < 64) :
    B9 g (R, T, st ++ [(a : Int)], Lf) = (At (Du g R (st ++ [(a : Int)])) T).bind fun x => match x with
      | .inl T' => if st = [] then some (.done (Lf ++ [(a : Int)]).reverse) else some (.next (R, T', st, Lf ++ [(a : Int)]))
      | .inr (R', T', st') => some (.next (R', T', st', Lf)) := by
  have hroom : (1000 : Nat) ≤ room := by decide
  unfold B9; simp only
  have hb : A5 (Bi (((st ++ [(a : Int)]).length : Int) - 1)) (st ++ [(a : Int)]).length := by rw [topi (by omega)]; exact D5 (by simp)
  rw [Ac hb]
  congr 1
  funext x
  cases x with
  | inr y => obtain ⟨R', T', st'⟩ := y; rfl
  | inl T' =>
    simp only [top (st := st) (a := (a : Int)) (by omega)]; rw [topi (by omega), Aq, Ac (by rw [List.length_singleton]; omega), Ac ⟨by omega, by simp⟩]; have e : (st ++ [(a : Int)]).take st.length = st := List.take_left' rfl; rw [e]
    cases st with
    | nil =>
      rw [if_pos rfl]
      have : decide ((0 : Int) < (([] : List Int).length : Int)) = false := by decide
      rw [this, cond_false, m_reverse _ (by simp; omega)]; simp only [Option.bind_some]; rw [Ac (by simp)]
    | cons b st' =>
      rw [if_neg (by simp)]; have : decide ((0 : Int) < ((b :: st').length : Int)) = true := decide_eq_true (by simp <;> omega); rw [this, cond_true]
theorem Zn {S X : Type} {f : S → Option (LR S X)} {a b : S} (h : f a = f b) : At f a = At f b := by
  cases hb : f b with
  | none => rw [Nb (h.trans hb), Nb hb]
  | some r => cases r with
    | done x => rw [A4 (h.trans hb), A4 hb]
    | next s => rw [Br (h.trans hb), Br hb]
theorem L0 {S X : Type} {f : S → Option (LR S X)} {s : S} : J9 (f s) f = At f s := by
  unfold J9
  cases hb : f s with
  | none => rw [Nb hb]; rfl
  | some r => cases r with
    | done x => rw [A4 hb]; rfl
    | next s' => rw [Br hb]; rfl
def sN (L : List (List Int)) (k : Nat) : List Nat := (L.getD k []).map Int.toNat
def RelS (R : List Bool) (s : Nat → Bool) : Prop := ∀ z, z < 64 → R.getD z false = s z
theorem Gp {α : Type} {d : α} {l : List α} {i : Nat} {x : α} {k : Nat} (hk : k < 64) : (Dp 64 d l i x).getD k d = if k = i then x else l.getD k d := by
  rw [T4 hk]
  by_cases h : k = i
  · subst h; simp
  · have : Nat.beq k i = false := by cases hb : Nat.beq k i with | false => rfl | true => exact absurd (Nat.eq_of_beq_eq_true hb) h
    rw [this, if_neg h]; rfl
theorem RelS.set {R : List Bool} {s : Nat → Bool} (h : RelS R s) {y : Nat} : RelS (Dp 64 false R y true) (upd s y) := fun z hz => by
  rw [Gp hz, h z hz]
  by_cases hzy : z = y
  · simp [upd, hzy]
  · simp [upd, hzy]
def Gl (o : List Nat) : List Int := o.map Int.ofNat
theorem Y7 {g : An} (hm : Et g.Succ = true) {s s' : Nat → Bool} {l o : List Nat} (hv : VL (sN g.Succ) s l s' o) :
    ∀ (R : List Bool) (T st Lf : List Int) (a t : Nat), RelS R s → a < g.Succ.length → l = (sN g.Succ a).drop t → T.getD a 0 = (t : Int) → t ≤ (sN g.Succ a).length → s a = true → (∀ z, z < 64 → s z = false → T.getD z 0 = 0) →
      Lf.length + S8 64 s + st.length + 1 ≤ 64 →
      ∃ (R' : List Bool) (T' : List Int), RelS R' s' ∧ (∀ z, z < 64 → s' z = false → T'.getD z 0 = 0) ∧ (∀ z, z < 64 → s z = true → z ≠ a → T'.getD z 0 = T.getD z 0) ∧ Lf.length + o.length + S8 64 s' + st.length + 1 ≤ 64 ∧
        At (B9 g) (R, T, st ++ [(a : Int)], Lf) = if st = [] then some (Lf ++ Gl o ++ [(a : Int)]).reverse else At (B9 g) (R', T', st, Lf ++ Gl o ++ [(a : Int)]) := by
  obtain ⟨hL1, hL64, hLok⟩ := mayS_iff.1 hm
  have hlenS : ∀ a, (sN g.Succ a).length = (g.Succ.getD a []).length := fun a => by simp [sN]
  have hdrop : ∀ (a t y : Nat) (l' : List Nat), a < g.Succ.length → y :: l' = (sN g.Succ a).drop t → t < (g.Succ.getD a []).length ∧ (g.Succ.getD a []).getD t 0 = (y : Int) ∧ y < g.Succ.length ∧ l' = (sN g.Succ a).drop (t + 1) := fun a t y l' ha he => by
    have ht : t < (sN g.Succ a).length := by
      rcases Nat.lt_or_ge t (sN g.Succ a).length with h | h
      · exact h
      · rw [List.drop_eq_nil_of_le h] at he; cases he
    rw [List.drop_eq_getElem_cons ht] at he; simp only [List.cons.injEq] at he; obtain ⟨h1, h2⟩ := he
    have ht' : t < (g.Succ.getD a []).length := by rw [← hlenS]; exact ht
    obtain ⟨b0, b1⟩ := Nq (hLok a ha) ht'
    have h3 : (sN g.Succ a)[t] = ((g.Succ.getD a []).getD t 0).toNat := by rw [Ag _ _ _ ht']; simp [sN]
    exact ⟨ht', by omega, by omega, h2⟩
  induction hv with
  | nil s =>
    intro R T st Lf a t hR ha hl hT htl hsa hz hc
    have ht : t = (g.Succ.getD a []).length := by
      have := congrArg List.length hl; simp at this; rw [hlenS] at htl this; omega
    refine ⟨R, T, hR, hz, fun _ _ _ _ => rfl, by simpa using hc, ?_⟩
    have hF : B9 g (R, T, st ++ [(a : Int)], Lf) = if st = [] then some (.done (Lf ++ [(a : Int)]).reverse) else some (.next (R, T, st, Lf ++ [(a : Int)])) := by
      rw [F3_eq (by omega) (by omega), A4 (L2_done (by omega) ha hL64 (by rw [hT, ht]))]
      rfl
    by_cases hst : st = []
    · rw [if_pos hst] at hF ⊢; rw [A4 hF]; simp [Gl]
    · rw [if_neg hst] at hF ⊢; rw [Br hF]; simp [Gl]
  | @skip s s' y l o h tl ih =>
    intro R T st Lf a t hR ha hl hT htl hsa hz hc; obtain ⟨h1, h2, h3, h4⟩ := hdrop a t y l ha hl; have hb := H4 (hLok a ha); have hs := L2_step (g := g) (R := R) (st := st) (T := T) (a := a) (t := t) (y := y) (by omega) ha hL64 hT h1 (by omega) h2 h3; rw [hR y (by omega), h, cond_true] at hs; obtain ⟨R', T', a1, a2, a3, a4, a5⟩ := ih R (Dp 64 (0 : Int) T a ((t + 1 : Nat) : Int)) st Lf a (t + 1) hR ha h4 (by rw [Gp (by omega), if_pos rfl]) (by rw [hlenS]; omega) hsa
      (fun z hz1 hz2 => by rw [Gp hz1, if_neg (by rintro rfl; rw [hsa] at hz2; cases hz2)]; exact hz z hz1 hz2) hc
    refine ⟨R', T', a1, a2, fun z hz1 hz2 hz3 => by rw [a3 z hz1 hz2 hz3, Gp hz1, if_neg hz3], a4, ?_⟩; rw [← a5]
    apply Zn
    rw [F3_eq (by omega) (by omega), F3_eq (by omega) (by omega), Br hs]
  | @step s s1 s2 y l o1 o2 h tl tr ih1 ih2 =>
    intro R T st Lf a t hR ha hl hT htl hsa hz hc; obtain ⟨h1, h2, h3, h4⟩ := hdrop a t y l ha hl; have hb := H4 (hLok a ha)
    have hay : y ≠ a := by rintro rfl; rw [hsa] at h; cases h
    have hs := L2_step (g := g) (R := R) (st := st) (T := T) (a := a) (t := t) (y := y) (by omega) ha hL64 hT h1 (by omega) h2 h3; rw [hR y (by omega), h, cond_false] at hs; have hcu := Jx (n := 64) (show y < 64 by omega) h
    have hF : B9 g (R, T, st ++ [(a : Int)], Lf) = some (.next (Dp 64 false R y true, Dp 64 (0 : Int) T a ((t + 1 : Nat) : Int), (st ++ [(a : Int)]) ++ [(y : Int)], Lf)) := by
      rw [F3_eq (by omega) (by omega), A4 hs]
      rfl
    obtain ⟨R1, T1, b1, b2, b3, b4, b5⟩ := ih1 (Dp 64 false R y true) (Dp 64 (0 : Int) T a ((t + 1 : Nat) : Int)) (st ++ [(a : Int)]) Lf y 0 hR.set h3 (by simp)
      (by rw [Gp (by omega), if_neg hay]; exact hz y (by omega) h) (Nat.zero_le _) (upd_true.2 (.inl rfl))
      (fun z hz1 hz2 => by
        obtain ⟨c1, c2⟩ := upd_false.1 hz2; rw [Gp hz1, if_neg (by rintro rfl; rw [hsa] at c2; cases c2)]
        exact hz z hz1 c2) (by rw [List.length_append, List.length_singleton]; omega)
    rw [if_neg (by simp)] at b5
    have hTa : T1.getD a 0 = ((t + 1 : Nat) : Int) := by rw [b3 a (by omega) (upd_true.2 (.inr hsa)) (Ne.symm hay), Gp (by omega), if_pos rfl]
    rw [List.length_append, List.length_singleton] at b4; obtain ⟨R2, T2, c1, c2, c3, c4, c5⟩ := ih2 R1 T1 st (Lf ++ Gl o1 ++ [(y : Int)]) a (t + 1) b1 ha h4 hTa (by rw [hlenS]; omega) ((tl.seen a).2 (.inl (upd_true.2 (.inr hsa)))) b2
      (by simp only [List.length_append, List.length_singleton, Gl, List.length_map]; omega)
    refine ⟨R2, T2, c1, c2, fun z hz1 hz2 hz3 => ?_, ?_, ?_⟩
    · rw [c3 z hz1 ((tl.seen z).2 (.inl (upd_true.2 (.inr hz2)))) hz3, b3 z hz1 (upd_true.2 (.inr hz2)) (by rintro rfl; rw [h] at hz2; cases hz2), Gp hz1, if_neg hz3]
    · simp only [List.length_append, List.length_singleton, Gl, List.length_map, List.length_cons] at c4 ⊢; omega
    · rw [Br hF, b5, c5]
      have e : Lf ++ Gl o1 ++ [(y : Int)] ++ Gl o2 ++ [(a : Int)] = Lf ++ Gl (o1 ++ y :: o2) ++ [(a : Int)] := by simp [Gl]
      rw [e]
theorem Lj {L : List (List Int)} (h : Et L = true) : ∀ z, z < L.length → ∀ y ∈ sN L z, y < L.length := fun z hz y hy => by
  obtain ⟨_, _, h3⟩ := mayS_iff.1 h; obtain ⟨x, hx, rfl⟩ := List.mem_map.1 hy; have := F9 (h3 z hz) hx; omega
theorem cnt_one {r : Nat} (hr : r < 64) : S8 64 (one r) = 63 := by
  have h := Jx (n := 64) (s := fun _ => false) hr rfl
  have e : upd (fun _ => false) r = one r := by funext z; simp [upd, one]
  rw [e] at h
  have : S8 64 (fun _ => false) = 64 := by decide
  omega
theorem F3 {α : Type} {n z : Nat} {d : α} : (List.replicate n d).getD z d = d := by rw [List.getD_eq_getElem?_getD, List.getElem?_replicate]; split <;> rfl
theorem Qi (g : An) (h : Fits g.Succ) (hP : True) (r : Int) :
    (Hw g = true → 0 ≤ r → r < (g.Succ.length : Int) → ∀ L, Ord (sN g.Succ) r.toNat L → C8 g r = some (Gl L)) ∧
    ((Hw g && (decide (0 ≤ r) && decide (r < (g.Succ.length : Int)))) = false → C8 g r = some []) := by
  refine ⟨fun hm h0 h1 L hL => ?_, fun hf => ?_⟩
  · have hms : Et g.Succ = true := by unfold Hw at hm; exact (Bool.and_eq_true _ _ ▸ hm).1
    obtain ⟨hL1, hL64, hLok⟩ := mayS_iff.1 hms; obtain ⟨s', o, hv, rfl⟩ := hL; have hrn : ((r.toNat : Nat) : Int) = r := Int.toNat_of_nonneg h0
    have hr : r.toNat < g.Succ.length := by omega
    obtain ⟨R', T', _, _, _, _, hmain⟩ := Y7 hms hv (Dp 64 false (List.replicate 64 false) r.toNat true) (List.replicate 64 (0 : Int)) [] [] r.toNat 0
      (fun z hz => by rw [Gp hz, F3]; by_cases hzr : z = r.toNat <;> simp [one, hzr]) hr (by simp) F3 (Nat.zero_le _) (by simp [one])
      (fun z hz _ => F3) (by rw [cnt_one (by omega)]; simp)
    rw [if_pos rfl, hrn] at hmain; unfold C8; rw [m_may _ h, hm, Option.bind_some]; simp only [Bool.not_true, beq_self_eq_true, cond_true, cond_false, L4, decide_eq_true h0, decide_eq_true h1, Bool.and_self, Option.bind_some]; rw [Ac ⟨h0, by omega⟩]; have hF : ∀ X, At (B9 g) (Dp 64 false (List.replicate 64 false) r.toNat true, List.replicate 64 (0 : Int), [] ++ [r], []) = some X →
        (J9 (B9 g (Dp 64 false (List.replicate 64 false) r.toNat true, List.replicate 64 (0 : Int), [r], [])) (B9 g)).bind (fun x => some x) = some X := fun X hX => by
      rw [L0]; rw [List.nil_append] at hX; rw [hX]; rfl
    refine (hF _ hmain).trans ?_; simp only [List.nil_append, List.reverse_append, Gl, List.map_cons, List.map_reverse, List.reverse_cons, List.reverse_nil]
    simp
    omega
  · unfold C8; rw [m_may _ h, Option.bind_some]
    cases hm : Hw g with
    | false => rfl
    | true =>
      rw [hm, Bool.true_and] at hf; simp only [Bool.not_true, beq_self_eq_true, cond_true, cond_false, L4, hf, Option.bind_some, Bool.not_false]
      rfl
end
end Go.Proofs.Ytjpacggpipflcaa

namespace Go.Proofs.Ytjpacggpipflcaa
noncomputable section
open Go Go.RowKit
set_option linter.unusedVariables false
set_option linter.unusedSimpArgs false
def RelN (n : Nat) (R : List Bool) (s : Nat → Bool) : Prop := R.length = n ∧ ∀ z, z < n → R.getD z false = s z
theorem RelN.set {n : Nat} {R : List Bool} {s : Nat → Bool} (h : RelN n R s) {y : Nat} (hy : y < n) : RelN n (R.set y true) (upd s y) := by
  refine ⟨by rw [List.length_set]; exact h.1, fun z hz => ?_⟩; rw [List.getD_eq_getElem?_getD, List.getElem?_set]
  by_cases hzy : y = z
  · subst hzy; simp [upd, h.1, hy]
  · rw [if_neg hzy, ← List.getD_eq_getElem?_getD, h.2 z hz]; simp [upd, Ne.symm hzy]
theorem H9 : ∀ (n : Nat) (l : List Nat), l.Nodup → (∀ x ∈ l, x < n) → l.length ≤ n
  | 0, l, _, h => by
    cases l with
    | nil => simp
    | cons x l => have := h x (List.mem_cons_self ..); omega
  | n + 1, l, hd, h => by
    by_cases hn : n ∈ l
    · have h1 := H9 n (l.erase n) (hd.erase n) fun x hx => by
        have h2 := (hd.mem_erase_iff).1 hx; have := h x h2.2; have := h2.1; omega
      rw [List.length_erase_of_mem hn] at h1; omega
    · have h1 := H9 n l hd fun x hx => by
        have := h x hx
        have : x ≠ n := by rintro rfl; exact hn hx
        omega
      omega
end
end Go.Proofs.Ytjpacggpipflcaa

namespace Go.Proofs.Ytjpacggpipflcaa
noncomputable section
open Go Go.RowKit
set_option linter.unusedVariables false
set_option linter.unusedSimpArgs false
end
end Go.Proofs.Ytjpacggpipflcaa

namespace Go.Proofs.Ytjpacggpipflcaa
noncomputable section
open Go Go.RowKit
set_option linter.unusedVariables false
set_option linter.unusedSimpArgs false
theorem Na : ∀ {a b : List Int}, a.Pairwise (· < ·) → b.Pairwise (· < ·) → (∀ x, x ∈ a ↔ x ∈ b) → a = b
  | [], [], _, _, _ => rfl
  | [], y :: b, _, _, h => by have := (h y).2 (List.mem_cons_self ..); cases this
  | x :: a, [], _, _, h => by have := (h x).1 (List.mem_cons_self ..); cases this
  | x :: a, y :: b, ha, hb, h => by
    have ha' := List.pairwise_cons.1 ha; have hb' := List.pairwise_cons.1 hb
    have hxy : x = y := by
      rcases List.mem_cons.1 ((h x).1 (List.mem_cons_self ..)) with h1 | h1
      · exact h1
      · rcases List.mem_cons.1 ((h y).2 (List.mem_cons_self ..)) with h2 | h2
        · exact h2.symm
        · have := ha'.1 y h2; have := hb'.1 x h1; omega
    subst hxy
    congr 1
    refine Na ha'.2 hb'.2 fun z => ⟨fun hz => ?_, fun hz => ?_⟩
    · rcases List.mem_cons.1 ((h z).1 (List.mem_cons_of_mem _ hz)) with rfl | h1
      · have := ha'.1 z hz; omega
      · exact h1
    · rcases List.mem_cons.1 ((h z).2 (List.mem_cons_of_mem _ hz)) with rfl | h1
      · have := hb'.1 z hz; omega
      · exact h1
theorem Lp (p : Nat → Bool) (n : Nat) : (((List.range n).filter p).map Int.ofNat).Pairwise (· < ·) := by
  rw [List.pairwise_map]; have := (List.pairwise_lt_range (n := n)).filter p
  exact this.imp fun h => by simpa using h
theorem N1 {p : Nat → Bool} {n : Nat} {x : Int} : x ∈ ((List.range n).filter p).map Int.ofNat ↔ ∃ k : Nat, x = (k : Int) ∧ k < n ∧ p k = true := by
  simp only [List.mem_map, List.mem_filter, List.mem_range]
  constructor
  · rintro ⟨k, ⟨h1, h2⟩, rfl⟩; exact ⟨k, rfl, h1, h2⟩
  · rintro ⟨k, rfl, h1, h2⟩; exact ⟨k, ⟨h1, h2⟩, rfl⟩
theorem Ot {L : List (List Int)} {k i : Nat} : M1 L k i = true ↔ (i : Int) ∈ L.getD k [] := by unfold M1; rw [List.contains_iff_mem]
theorem small_len {L : List (List Int)} (h : L.length ≤ maxLen) : L.length < 9223372036854775808 := by unfold maxLen at h; omega
theorem mayG_g0 : Hw g0 = false := by decide
end
end Go.Proofs.Ytjpacggpipflcaa

namespace Go.Proofs.Ytjpacggpipflcaa
noncomputable section
open Go Go.RowKit
set_option linter.unusedVariables false
set_option linter.unusedSimpArgs false
theorem mem_sN {L : List (List Int)} (h : Et L = true) {x y : Nat} (hx : x < L.length) : y ∈ sN L x ↔ (y : Int) ∈ L.getD x [] := by
  obtain ⟨_, _, h3⟩ := mayS_iff.1 h; unfold sN; rw [List.mem_map]
  constructor
  · rintro ⟨z, hz, rfl⟩; have := F9 (h3 x hx) hz; rw [Int.toNat_of_nonneg this.1]; exact hz
  · intro hy; exact ⟨_, hy, Aq y⟩
theorem rch_lt {L : List (List Int)} (h : Et L = true) {x y : Nat} (hr : Rch (sN L) x y) (hx : x < L.length) : y < L.length := by
  induction hr with
  | refl x => exact hx
  | head hy _ ih => exact ih (Lj h _ hx _ hy)
theorem ofN_at {l : List Nat} {i : Nat} (hi : i < l.length) : (Gl l).getD i 0 = ((l[i] : Nat) : Int) := by simp [Gl, List.getD, hi]
end
end Go.Proofs.Ytjpacggpipflcaa

namespace Go.Proofs.Ytjpacggpipflcaa
noncomputable section
open Go Go.RowKit
set_option linter.unusedVariables false
set_option linter.unusedSimpArgs false
end
end Go.Proofs.Ytjpacggpipflcaa

namespace Go.Proofs.Ytjpacggpipflcaa
noncomputable section
open Go Go.RowKit
set_option linter.unusedVariables false
set_option linter.unusedSimpArgs false
def mk (o : List Bool) (l : List Nat) : List Bool := l.foldl (fun o y => o.set y true) o
theorem mk_len (l : List Nat) : ∀ o : List Bool, (mk o l).length = o.length := by
  induction l with
  | nil => intro o; rfl
  | cons y l ih => intro o; show (mk (o.set y true) l).length = _; rw [ih, List.length_set]
theorem mk_at {n : Nat} (l : List Nat) : ∀ (o : List Bool), o.length = n → (∀ y ∈ l, y < n) → ∀ z, (mk o l).getD z false = true ↔ o.getD z false = true ∨ z ∈ l := by
  induction l with
  | nil => intro o _ _ z; simp [mk]
  | cons y l ih =>
    intro o ho hl z
    show (mk (o.set y true) l).getD z false = true ↔ _
    rw [ih (o.set y true) (by rw [List.length_set]; exact ho) (fun u hu => hl u (List.mem_cons_of_mem _ hu)) z]; have hy := hl y (List.mem_cons_self ..)
    have e : (o.set y true).getD z false = true ↔ o.getD z false = true ∨ z = y := by
      rw [List.getD_eq_getElem?_getD, List.getElem?_set, List.getD_eq_getElem?_getD]
      by_cases h : y = z
      · subst h; simp [ho, hy]
      · simp [h, Ne.symm h]
    rw [e, List.mem_cons]
    constructor
    · rintro ((h | h) | h)
      · exact .inl h
      · exact .inr (.inl h)
      · exact .inr (.inr h)
    · rintro (h | h | h)
      · exact .inl (.inl h)
      · exact .inl (.inr h)
      · exact .inr h
def sw (S : Nat → List Nat) (o : List Bool) : Nat → List Bool
  | 0 => o
  | i + 1 => if (sw S o i).getD i false = true then mk (sw S o i) (S i) else sw S o i
def Rk (S : Nat → List Nat) (n : Nat) (o : List Bool) : Nat → List Bool
  | 0 => o
  | j + 1 => sw S (Rk S n o j) n
section
variable {S : Nat → List Nat} {n : Nat} (hS : ∀ z, z < n → ∀ y ∈ S z, y < n)
theorem L1 (o : List Bool) : ∀ i, (sw S o i).length = o.length := by
  intro i
  induction i with
  | zero => rfl
  | succ i ih => unfold sw; split; rw [mk_len, ih]; exact ih
theorem Qd (o : List Bool) : ∀ j, (Rk S n o j).length = o.length := by
  intro j
  induction j with
  | zero => rfl
  | succ j ih => unfold Rk; rw [L1, ih]
include hS
theorem Qn {o : List Bool} (ho : o.length = n) : ∀ i, i ≤ n → ∀ z, o.getD z false = true → (sw S o i).getD z false = true := by
  intro i
  induction i with
  | zero => intro _ z h; exact h
  | succ i ih =>
    intro hi z h; unfold sw
    split
    · exact (mk_at (n := n) _ _ (by rw [L1]; exact ho) (hS i (by omega)) z).2 (.inl (ih (by omega) z h))
    · exact ih (by omega) z h
theorem sw_sound {o : List Bool} {r : Nat} (ho : o.length = n) (h : ∀ z, o.getD z false = true → Rch S r z) : ∀ i, i ≤ n → ∀ z, (sw S o i).getD z false = true → Rch S r z := by
  intro i
  induction i with
  | zero => intro _ z hz; exact h z hz
  | succ i ih =>
    intro hi z hz; unfold sw at hz
    split at hz
    · rename_i hsi
      rcases (mk_at (n := n) _ _ (by rw [L1]; exact ho) (hS i (by omega)) z).1 hz with h1 | h1
      · exact ih (by omega) z h1
      · exact (ih (by omega) i hsi).tail h1
    · exact ih (by omega) z hz
theorem sw_step {o : List Bool} (ho : o.length = n) : ∀ i, i ≤ n → ∀ j, j < i → o.getD j false = true → ∀ y ∈ S j, (sw S o i).getD y false = true := by
  intro i
  induction i with
  | zero => intro _ j hj; omega
  | succ i ih =>
    intro hi j hj hoj y hy; unfold sw
    by_cases hji : j = i
    · subst hji; have h1 := Qn hS ho j (by omega) j hoj; rw [if_pos h1]; exact (mk_at (n := n) _ _ (by rw [L1]; exact ho) (hS j (by omega)) y).2 (.inr hy)
    · have h1 := ih (by omega) j (by omega) hoj y hy
      split
      · exact (mk_at (n := n) _ _ (by rw [L1]; exact ho) (hS i (by omega)) y).2 (.inl h1)
      · exact h1
theorem sw_closed {o : List Bool} (ho : o.length = n) (hc : ∀ j, j < n → o.getD j false = true → ∀ y ∈ S j, o.getD y false = true) : ∀ i, i ≤ n → ∀ z, (sw S o i).getD z false = true → o.getD z false = true := by
  intro i
  induction i with
  | zero => intro _ z h; exact h
  | succ i ih =>
    intro hi z hz; unfold sw at hz
    split at hz
    · rename_i hsi
      rcases (mk_at (n := n) _ _ (by rw [L1]; exact ho) (hS i (by omega)) z).1 hz with h1 | h1
      · exact ih (by omega) z h1
      · exact hc i (by omega) (ih (by omega) i hsi) z h1
    · exact ih (by omega) z hz
theorem V8 {r : Nat} (hr : r < n) (z : Nat) : (Rk S n ((List.replicate n false).set r true) n).getD z false = true ↔ Rch S r z := by
  let o0 := (List.replicate n false).set r true
  have ho0 : o0.length = n := by simp [o0]
  have hat0 : ∀ z, o0.getD z false = true ↔ z = r := fun z => by
    show ((List.replicate n false).set r true).getD z false = true ↔ z = r
    rw [List.getD_eq_getElem?_getD, List.getElem?_set]
    by_cases h : r = z
    · subst h; simp [hr]
    · rw [if_neg h, ← List.getD_eq_getElem?_getD, F3]; simp [Ne.symm h]
  have hlen : ∀ j, (Rk S n o0 j).length = n := fun j => by rw [Qd, ho0]
  have hsound : ∀ j z, (Rk S n o0 j).getD z false = true → Rch S r z := by
    intro j
    induction j with
    | zero => intro z hz; rw [(hat0 z).1 hz]; exact .refl _
    | succ j ih => intro z hz; exact sw_sound hS (hlen j) ih n (Nat.le_refl _) z hz
  have hmono : ∀ j, ∀ z, o0.getD z false = true → (Rk S n o0 j).getD z false = true := by
    intro j
    induction j with
    | zero => intro z h; exact h
    | succ j ih => intro z h; exact Qn hS (hlen j) n (Nat.le_refl _) z (ih z h)
  let C : Nat → Prop := fun j => ∀ i, i < n → (Rk S n o0 j).getD i false = true → ∀ y ∈ S i, (Rk S n o0 j).getD y false = true
  have key : ∀ j, C j ∨ S8 n (fun z => (Rk S n o0 j).getD z false) + j + 1 ≤ n := by
    intro j
    induction j with
    | zero =>
      refine .inr ?_; have h1 := Jx (n := n) (s := fun _ => false) hr rfl
      have e : upd (fun _ => false) r = fun z => (Rk S n o0 0).getD z false := by
        funext z
        rw [Bool.eq_iff_iff, upd_true]
        show _ ↔ o0.getD z false = true
        rw [hat0]
        simp
      rw [e] at h1
      have hcl : S8 n (fun _ => false) = n := by
        unfold S8; rw [List.filter_eq_self.2 (by simp)]
        simp
      omega
    | succ j ih =>
      by_cases hc : C j
      · refine .inl fun i hi h y hy => ?_; have h1 := sw_closed hS (hlen j) hc n (Nat.le_refl _) i h; exact Qn hS (hlen j) n (Nat.le_refl _) y (hc i hi h1 y hy)
      · rcases ih with ih | ih
        · exact (hc ih).elim
        · refine .inr ?_
          have hex : ∃ i, i < n ∧ (Rk S n o0 j).getD i false = true ∧ ∃ y, y ∈ S i ∧ (Rk S n o0 j).getD y false = false := by
            simp only [C] at hc; simp only [Classical.not_forall] at hc; obtain ⟨i, hi, h1, y, hy, h2⟩ := hc; exact ⟨i, hi, h1, y, hy, by simpa using h2⟩
          obtain ⟨i, hi, h1, y, hy, h2⟩ := hex; have h3 := sw_step hS (hlen j) n (Nat.le_refl _) i hi h1 y hy; have hyn := hS i hi y hy; have h4 := Jx (n := n) (s := fun z => (Rk S n o0 j).getD z false) hyn h2
          have h5 : S8 n (fun z => (Rk S n o0 (j + 1)).getD z false) ≤ S8 n (upd (fun z => (Rk S n o0 j).getD z false) y) := Yb fun z hz => by
            rcases upd_true.1 hz with rfl | hz
            · exact h3
            · exact Qn hS (hlen j) n (Nat.le_refl _) z hz
          omega
  have hC : C n := by
    rcases key n with h | h
    · exact h
    · omega
  constructor
  · exact hsound n z
  · intro hrch
    have hlt : ∀ x z, Rch S x z → x < n → z < n ∧ ((Rk S n o0 n).getD x false = true → (Rk S n o0 n).getD z false = true) := by
      intro x z hxz
      induction hxz with
      | refl x => exact fun hx => ⟨hx, id⟩
      | @head x y z hy _ ih =>
        intro hx; have := ih (hS x hx y hy); exact ⟨this.1, fun h => this.2 (hC x hx h y hy)⟩
    exact (hlt r z hrch hr).2 (hmono n r ((hat0 r).2 rfl))
end
end
end Go.Proofs.Ytjpacggpipflcaa

namespace Go.Proofs.Ytjpacggpipflcaa
noncomputable section
open Go Go.RowKit
set_option linter.unusedVariables false
set_option linter.unusedSimpArgs false
def pos : List Nat → Nat → Nat
  | [], _ => 0
  | x :: l, z => if x = z then 0 else pos l z + 1
theorem Sq (x : Nat) (l : List Nat) (z : Nat) : pos (x :: l) z = if x = z then 0 else pos l z + 1 := rfl
theorem pos_app {A l : List Nat} {z : Nat} (h : z ∉ A) : pos (A ++ l) z = A.length + pos l z := by
  induction A with
  | nil => simp
  | cons x A ih =>
    have h1 : x ≠ z := fun e => h (by rw [e]; exact List.mem_cons_self ..); have h2 : z ∉ A := fun e => h (List.mem_cons_of_mem _ e); rw [List.cons_append, Sq, if_neg h1, ih h2, List.length_cons]; omega
theorem Iu {P : List Nat} (hd : P.Nodup) {i : Nat} (hi : i < P.length) : P[i] ∉ P.take i ∧ pos P P[i] = i := by
  have e : P = P.take i ++ P[i] :: P.drop (i + 1) := by rw [← List.drop_eq_getElem_cons hi, List.take_append_drop]
  have hn : P[i] ∉ P.take i := by
    rw [e] at hd; have := (List.nodup_append.1 hd).2.2; exact fun hm => this _ hm _ (List.mem_cons_self ..) rfl
  refine ⟨hn, ?_⟩
  have h2 : pos (P.take i ++ P[i] :: P.drop (i + 1)) P[i] = i := by
    rw [pos_app hn]
    have : pos (P[i] :: P.drop (i + 1)) P[i] = 0 := by rw [Sq, if_pos rfl]
    rw [this, List.length_take]; omega
  rw [← e] at h2; exact h2
end
end Go.Proofs.Ytjpacggpipflcaa

namespace Go.Proofs.Ytjpacggpipflcaa
noncomputable section
open Go Go.RowKit
set_option linter.unusedVariables false
set_option linter.unusedSimpArgs false
inductive Rc (S : Nat → List Nat) (r : Nat) : Nat → Prop
  | root : Rc S r r
  | step {x y : Nat} (h : Rc S r x) (hy : y ∈ S x) : Rc S r y
inductive Av (S : Nat → List Nat) (r z : Nat) : Nat → Prop
  | root (h : r ≠ z) : Av S r z r
  | step {x y : Nat} (h : Av S r z x) (hy : y ∈ S x) (hz : y ≠ z) : Av S r z y
inductive AvN (S : Nat → List Nat) (r z : Nat) : Nat → Nat → Prop
  | root (h : r ≠ z) (k : Nat) : AvN S r z k r
  | step {k x y : Nat} (h : AvN S r z k x) (hy : y ∈ S x) (hz : y ≠ z) : AvN S r z (k + 1) y
section
variable {S : Nat → List Nat} {r : Nat}
theorem rc_iff {x : Nat} : Rc S r x ↔ Rch S r x := by
  constructor
  · intro h
    induction h with
    | root => exact .refl _
    | step _ hy ih => exact ih.tail hy
  · intro h
    have key : ∀ a b, Rch S a b → Rc S r a → Rc S r b := by
      intro a b hab
      induction hab with
      | refl x => exact id
      | head hy _ ih => exact fun ha => ih (.step ha hy)
    exact key _ _ h .root
def wo (S : Nat → List Nat) (z : Nat) : Nat → List Nat := fun x => (S x).filter fun y => decide (y ≠ z)
theorem av_iff {z x : Nat} : Av S r z x ↔ r ≠ z ∧ Rch (wo S z) r x := by
  constructor
  · intro h
    induction h with
    | root h => exact ⟨h, .refl _⟩
    | step _ hy hz ih => exact ⟨ih.1, ih.2.tail (List.mem_filter.2 ⟨hy, by simpa using hz⟩)⟩
  · rintro ⟨hr, h⟩
    have key : ∀ a b, Rch (wo S z) a b → Av S r z a → Av S r z b := by
      intro a b hab
      induction hab with
      | refl x => exact id
      | head hy _ ih =>
        obtain ⟨h1, h2⟩ := List.mem_filter.1 hy; exact fun ha => ih (.step ha h1 (by simpa using h2))
    exact key _ _ h (.root hr)
theorem Av.rc {z x : Nat} (h : Av S r z x) : Rc S r x := by
  induction h with
  | root _ => exact .root
  | step _ hy _ ih => exact .step ih hy
theorem Av.ne {z x : Nat} (h : Av S r z x) : x ≠ z := by
  cases h with
  | root h => exact h
  | step _ _ hz => exact hz
theorem AvN.av {z k x : Nat} (h : AvN S r z k x) : Av S r z x := by
  induction h with
  | root h => exact .root h
  | step _ hy hz ih => exact .step ih hy hz
theorem AvN.up {z k x : Nat} (h : AvN S r z k x) : AvN S r z (k + 1) x := by
  induction h with
  | root h k => exact .root h _
  | step _ hy hz ih => exact .step ih hy hz
theorem AvN.mono {z k m x : Nat} (h : AvN S r z k x) (hm : k ≤ m) : AvN S r z m x := by
  obtain ⟨d, rfl⟩ := Nat.exists_eq_add_of_le hm; clear hm
  induction d with
  | zero => exact h
  | succ d ih => exact ih.up
theorem Av.avn {z x : Nat} (h : Av S r z x) : ∃ k, AvN S r z k x := by
  induction h with
  | root h => exact ⟨0, .root h 0⟩
  | step _ hy hz ih => obtain ⟨k, hk⟩ := ih; exact ⟨k + 1, .step hk hy hz⟩
theorem AvN.via {z k x : Nat} (h : AvN S r z k x) (y : Nat) : AvN S r y k x ∨ AvN S r z k y := by
  induction h with
  | root h k => by_cases hy : r = y
                · subst hy; exact .inr (.root h _)
                · exact .inl (.root hy _)
  | @step k x w h hy hz ih =>
    rcases ih with h1 | h1
    · by_cases hw : w = y
      · subst hw; exact .inr (.step h hy hz)
      · exact .inl (.step h1 hy hw)
    · exact .inr h1.up
theorem avn_bound (n : Nat) : ∃ K, ∀ z, z < n → ∀ x, x < n → Av S r z x → AvN S r z K x := by
  have one : ∀ z m, ∃ K, ∀ x, x < m → Av S r z x → AvN S r z K x := by
    intro z m
    induction m with
    | zero => exact ⟨0, fun x hx => absurd hx (Nat.not_lt_zero x)⟩
    | succ m ih =>
      obtain ⟨K, hK⟩ := ih
      by_cases h : Av S r z m
      · obtain ⟨k, hk⟩ := h.avn; refine ⟨max K k, fun x hx ha => ?_⟩; rcases Nat.lt_succ_iff_lt_or_eq.1 hx with h1 | rfl
        · exact (hK x h1 ha).mono (Nat.le_max_left ..)
        · exact hk.mono (Nat.le_max_right ..)
      · refine ⟨K, fun x hx ha => ?_⟩; rcases Nat.lt_succ_iff_lt_or_eq.1 hx with h1 | rfl
        · exact hK x h1 ha
        · exact absurd ha h
  have two : ∀ m, ∃ K, ∀ z, z < m → ∀ x, x < n → Av S r z x → AvN S r z K x := by
    intro m
    induction m with
    | zero => exact ⟨0, fun x hx => absurd hx (Nat.not_lt_zero x)⟩
    | succ m ih =>
      obtain ⟨K, hK⟩ := ih; obtain ⟨k, hk⟩ := one m n; refine ⟨max K k, fun z hz x hx ha => ?_⟩; rcases Nat.lt_succ_iff_lt_or_eq.1 hz with h1 | rfl
      · exact (hK z h1 x hx ha).mono (Nat.le_max_left ..)
      · exact (hk x hx ha).mono (Nat.le_max_right ..)
  exact two n
end
inductive UpTo (par : Nat → Int) : Nat → Nat → Prop
  | refl (x : Nat) : UpTo par x x
  | up {x y z : Nat} (h : par x = (y : Int)) (t : UpTo par y z) : UpTo par x z
inductive Fw (S : Nat → List Nat) (at_ : Nat → Nat) (u : Nat) : Nat → Prop
  | refl : Fw S at_ u u
  | step {v w : Nat} (h : Fw S at_ u v) (hw : w ∈ S v) (hl : at_ v < at_ w) : Fw S at_ u w
section
variable {S : Nat → List Nat} {at_ : Nat → Nat} {par : Nat → Int}
theorem Fw.le {u w : Nat} (h : Fw S at_ u w) : at_ u ≤ at_ w := by
  induction h with
  | refl => exact Nat.le_refl _
  | step _ _ hl ih => omega
theorem Fw.trans {u v w : Nat} (h : Fw S at_ u v) (k : Fw S at_ v w) : Fw S at_ u w := by
  induction k with
  | refl => exact h
  | step _ hw hl ih => exact .step ih hw hl
theorem Fw.av {r d u w : Nat} (h : Fw S at_ u w) (ha : Av S r d u) (hd : at_ d < at_ u) : Av S r d w := by
  induction h with
  | refl => exact ha
  | @step v w h hw hl ih => exact .step ih hw (by rintro rfl; have := h.le; omega)
theorem UpTo.trans {x y z : Nat} (h : UpTo par x y) (k : UpTo par y z) : UpTo par x z := by
  induction h with
  | refl x => exact k
  | up h _ ih => exact .up h (ih k)
theorem anc_up {x p z : Nat} (h : par x = (p : Int)) : UpTo par x z ↔ z = x ∨ UpTo par p z := by
  constructor
  · intro k
    cases k with
    | refl => exact .inl rfl
    | up h' t => rw [h] at h'; cases Int.ofNat.inj h'; exact .inr t
  · rintro (rfl | k)
    · exact .refl _
    · exact .up h k
theorem Qj {x z : Nat} (h : ∀ p : Nat, par x ≠ (p : Int)) : UpTo par x z ↔ z = x := by
  constructor
  · intro k
    cases k with
    | refl => rfl
    | up h' t => exact absurd h' (h _)
  · rintro rfl; exact .refl _
structure Inv (S : Nat → List Nat) (r n : Nat) (at_ : Nat → Nat) (par : Nat → Int) : Prop where
  top : par r = -1
  kind : ∀ x, x < n → par x = -2 ∨ x = r ∨ ∃ z : Nat, par x = (z : Int)
  up : ∀ x, x < n → ∀ z : Nat, par x = (z : Int) → z < n ∧ par z ≠ -2 ∧ at_ z < at_ x ∧ Fw S at_ z x
  rc : ∀ x, x < n → par x ≠ -2 → Rc S r x
  all : ∀ x, x < n → par x ≠ -2 → ∀ d, ¬ UpTo par x d → Av S r d x
end
section
variable {S : Nat → List Nat} {at_ : Nat → Nat} {par : Nat → Int} {r n : Nat}
theorem Inv.anc (h : Inv S r n at_ par) {x z : Nat} (k : UpTo par x z) (hx : x < n) (hp : par x ≠ -2) : z < n ∧ par z ≠ -2 ∧ at_ z ≤ at_ x ∧ Fw S at_ z x := by
  induction k with
  | refl x => exact ⟨hx, hp, Nat.le_refl _, .refl⟩
  | @up x y z hxy t ih =>
    obtain ⟨h1, h2, h3, h4⟩ := h.up x hx y hxy; obtain ⟨i1, i2, i3, i4⟩ := ih h1 h2; exact ⟨i1, i2, by omega, i4.trans h4⟩
theorem Inv.root_anc (h : Inv S r n at_ par) {z : Nat} : UpTo par r z ↔ z = r := Qj fun p hp => by rw [h.top] at hp; omega
theorem Inv.strict (h : Inv S r n at_ par) {x z : Nat} (k : UpTo par x z) (hx : x < n) (hp : par x ≠ -2) : z = x ∨ at_ z < at_ x := by
  cases k with
  | refl => exact .inl rfl
  | up hxy t =>
    obtain ⟨h1, h2, h3, h4⟩ := h.up x hx _ hxy; obtain ⟨i1, i2, i3, i4⟩ := h.anc t h1 h2; exact .inr (by omega)
theorem Inv.antisymm (h : Inv S r n at_ par) {x z : Nat} (k : UpTo par x z) (m : UpTo par z x) (hx : x < n) (hp : par x ≠ -2) : z = x := by
  rcases h.strict k hx hp with rfl | h1
  · rfl
  · obtain ⟨i1, i2, i3, i4⟩ := h.anc k hx hp; have := (h.anc m i1 i2).2.2.1; omega
def MeetAt (par : Nat → Int) (a b m : Nat) : Prop := ∀ w, UpTo par m w ↔ UpTo par a w ∧ UpTo par b w
theorem Ul {a : Nat} : MeetAt par a a a := fun w => by simp
theorem meet_swap {a b m : Nat} (h : MeetAt par a b m) : MeetAt par b a m := fun w => by rw [h w]; exact And.comm
theorem Inv.meet_left (h : Inv S r n at_ par) (hinj : ∀ x y, x < n → y < n → par x ≠ -2 → par y ≠ -2 → at_ x = at_ y → x = y) {a b p m : Nat} (ha : a < n) (hpa : par a ≠ -2) (hb : b < n) (hpb : par b ≠ -2) (hab : a ≠ b) (hl : at_ b ≤ at_ a) (hp : par a = (p : Int)) (k : MeetAt par p b m) : MeetAt par a b m := fun w => by
  rw [k w]
  constructor
  · rintro ⟨h1, h2⟩; exact ⟨.up hp h1, h2⟩
  · rintro ⟨h1, h2⟩; rcases (anc_up hp).1 h1 with rfl | h1
    · exfalso
      rcases h.strict h2 hb hpb with h3 | h3
      · exact hab h3
      · omega
    · exact ⟨h1, h2⟩
end
section
variable {S : Nat → List Nat} {at_ : Nat → Nat} {par : Nat → Int} {r n : Nat}
def Gu (par : Nat → Int) (y : Nat) (v : Int) : Nat → Int := fun x => if x = y then v else par x
def Zk (S : Nat → List Nat) (n : Nat) (par : Nat → Int) (y z : Nat) : Prop := ∀ w, UpTo par z w ↔ ∀ p, p < n → y ∈ S p → par p ≠ -2 → UpTo par p w
theorem P0 {y : Nat} {v : Int} {x z : Nat} (k : UpTo par x z) (hy : ¬ UpTo par x y) : UpTo (Gu par y v) x z := by
  induction k with
  | refl x => exact .refl _
  | @up x q z h t ih =>
    have hxy : x ≠ y := by rintro rfl; exact hy (.refl _)
    refine .up (y := q) ?_ (ih fun k => hy (.up h k)); unfold Gu; rw [if_neg hxy]; exact h
theorem V3 {y : Nat} {v : Int} {x : Nat} (k : UpTo par x y) : UpTo (Gu par y v) x y := by
  induction k with
  | refl x => exact .refl _
  | @up x q z h t ih =>
    by_cases hxy : x = z
    · subst hxy; exact .refl _
    · refine .up (y := q) ?_ ih; unfold Gu; rw [if_neg hxy]; exact h
theorem anc_upd_inv {y : Nat} {v : Int} {x w : Nat} (k : UpTo (Gu par y v) x w) : UpTo par x w ∨ (UpTo par x y ∧ UpTo (Gu par y v) y w) := by
  induction k with
  | refl x => exact .inl (.refl _)
  | @up x q w h t ih =>
    by_cases hxy : x = y
    · subst hxy; exact .inr ⟨.refl _, .up h t⟩
    · unfold Gu at h; rw [if_neg hxy] at h; rcases ih with h1 | ⟨h1, h2⟩
      · exact .inl (.up h h1)
      · exact .inr ⟨.up h h1, h2⟩
theorem low_or {y : Nat} {v : Int} {x d : Nat} (k : UpTo par x y) (hd : UpTo par x d) : UpTo par y d ∨ UpTo (Gu par y v) x d := by
  induction k with
  | refl x => exact .inl hd
  | @up x q y hq t ih =>
    by_cases e : x = y
    · subst e; exact .inl hd
    · rcases (anc_up hq).1 hd with rfl | k
      · exact .inr (.refl _)
      · rcases ih k with h1 | h1
        · exact .inl h1
        · exact .inr (.up (y := q) (by unfold Gu; rw [if_neg e]; exact hq) h1)
structure Better (S : Nat → List Nat) (r n : Nat) (at_ : Nat → Nat) (par : Nat → Int) (y z : Nat) : Prop where
  inv : Inv S r n at_ par
  hy : y < n
  hr : y ≠ r
  hz : z < n
  best : Zk S n par y z
  fwd : ∃ p, p < n ∧ y ∈ S p ∧ par p ≠ -2 ∧ at_ p < at_ y
variable {y z : Nat}
theorem Better.zlt (h : Better S r n at_ par y z) : UpTo par z z ∧ par z ≠ -2 ∧ at_ z < at_ y ∧ Fw S at_ z y := by
  obtain ⟨p, hp, hyp, hpp, hl⟩ := h.fwd; obtain ⟨h1, h2, h3, h4⟩ := h.inv.anc ((h.best z).1 (.refl _) p hp hyp hpp) hp hpp; exact ⟨.refl _, h2, by omega, .step h4 hyp hl⟩
theorem Better.above (h : Better S r n at_ par y z) {w : Nat} : UpTo (Gu par y z) z w ↔ UpTo par z w := by
  obtain ⟨_, h2, h3, _⟩ := h.zlt
  have hn : ¬ UpTo par z y := fun k => by have := (h.inv.anc k h.hz h2).2.2.1; omega
  constructor
  · intro k; rcases anc_upd_inv k with h1 | ⟨h1, _⟩
    · exact h1
    · exact absurd h1 hn
  · intro k; exact P0 k hn
theorem Better.here (h : Better S r n at_ par y z) {w : Nat} : UpTo (Gu par y z) y w ↔ w = y ∨ UpTo par z w := by
  rw [anc_up (p := z) (by simp [Gu]), h.above]
theorem Better.av_here (h : Better S r n at_ par y z) {d : Nat} (hd : ¬ UpTo (Gu par y z) y d) : Av S r d y := by
  rw [h.here] at hd; have h1 : ¬ ∀ p, p < n → y ∈ S p → par p ≠ -2 → UpTo par p d := fun hh => hd (.inr ((h.best d).2 hh)); simp only [Classical.not_forall] at h1; obtain ⟨p, hp, hyp, hpp, hnp⟩ := h1; exact .step (h.inv.all p hp hpp d hnp) hyp fun e => hd (.inl e.symm)
theorem Better.inv' (h : Better S r n at_ par y z) : Inv S r n at_ (Gu par y z) := by
  obtain ⟨hzz, hz2, hzl, hzf⟩ := h.zlt; obtain ⟨p, hp, hyp, hpp, hl⟩ := h.fwd
  have hne : ∀ x, Gu par y z x ≠ -2 → x = y ∨ par x ≠ -2 := fun x hx => by
    by_cases e : x = y
    · exact .inl e
    · unfold Gu at hx; rw [if_neg e] at hx; exact .inr hx
  have hyv : Gu par y z y = (z : Int) := by simp [Gu]
  have hyo : ∀ x, x ≠ y → Gu par y z x = par x := fun x e => by unfold Gu; rw [if_neg e]
  refine ⟨by rw [hyo _ (Ne.symm h.hr)]; exact h.inv.top, fun x hx => ?_, fun x hx w hw => ?_, fun x hx hxp => ?_, fun x hx hxp d hd => ?_⟩
  · by_cases e : x = y
    · subst e; exact .inr (.inr ⟨z, hyv⟩)
    · rw [hyo x e]; exact h.inv.kind x hx
  · have hzn : ∀ w, par w ≠ -2 → Gu par y z w ≠ -2 := fun w hw => by
      by_cases e : w = y
      · subst e; rw [hyv]; omega
      · rw [hyo w e]; exact hw
    by_cases e : x = y
    · subst e; rw [hyv] at hw
      cases Int.ofNat.inj hw
      exact ⟨h.hz, hzn _ hz2, hzl, hzf⟩
    · rw [hyo x e] at hw; obtain ⟨h1, h2, h3, h4⟩ := h.inv.up x hx w hw; exact ⟨h1, hzn _ h2, h3, h4⟩
  · rcases hne x hxp with rfl | h1
    · exact .step (h.inv.rc p hp hpp) hyp
    · exact h.inv.rc x hx h1
  · by_cases e : x = y
    · subst e; exact h.av_here hd
    · rw [hyo x e] at hxp
      by_cases hxd : UpTo par x d
      ·
        by_cases hxy : UpTo par x y
        · have hyd : ¬ UpTo (Gu par y z) y d := fun k => hd ((V3 hxy).trans k); have hav := h.av_here hyd; have hf := (h.inv.anc hxy hx hxp).2.2.2
          have hdy : UpTo par y d := by
            rcases low_or (v := (z : Int)) hxy hxd with h1 | h1
            · exact h1
            · exact absurd h1 hd
          by_cases hpy : par y = -2
          ·
            have : d = y := by
              refine (Qj (par := par) fun p hp => ?_).1 hdy; rw [hpy] at hp; omega
            subst this; exact absurd (.refl _) hyd
          · rcases h.inv.strict hdy h.hy hpy with rfl | hlt
            · exact absurd (.refl _) hyd
            · exact hf.av hav hlt
        · exact absurd (P0 hxd hxy) hd
      · exact h.inv.all x hx hxp d hxd
end
end
end Go.Proofs.Ytjpacggpipflcaa

namespace Go.Proofs.Ytjpacggpipflcaa
noncomputable section
open Go Go.RowKit
set_option linter.unusedVariables false
set_option linter.unusedSimpArgs false
section
variable {S : Nat → List Nat} {at_ : Nat → Nat} {par : Nat → Int} {r n : Nat}
def QB (S : Nat → List Nat) (r n : Nat) (par : Nat → Int) (b : Nat → Nat) : Prop := ∀ x, x < n → par x ≠ -2 → ∀ z, AvN S r z (b x) x → ¬ UpTo par x z
def Y6 (S : Nat → List Nat) (r n : Nat) (par : Nat → Int) : Prop := ∀ x, x < n → Rc S r x → par x ≠ -2
def Exact (S : Nat → List Nat) (r n : Nat) (par : Nat → Int) : Prop := ∀ x, x < n → par x ≠ -2 → ∀ d, UpTo par x d ↔ ¬ Av S r d x
theorem qb_zero (h : Inv S r n at_ par) : QB S r n par fun _ => 0 := fun x hx hp z hz k => by
  cases hz with
  | root hr _ => exact hr (h.root_anc.1 k).symm
theorem Wv (hS : ∀ x, x < n → ∀ w ∈ S x, w < n) (hr : r < n) {x : Nat} (h : Rc S r x) : x < n := by
  induction h with
  | root => exact hr
  | step _ hy ih => exact hS _ ih _ hy
theorem Better.qb {y z k : Nat} {b : Nat → Nat} (h : Better S r n at_ par y z) (hS : ∀ x, x < n → ∀ w ∈ S x, w < n) (hrn : r < n) (full : Y6 S r n par) (hb : ∀ x, x < n → k ≤ b x ∧ b x ≤ k + 1) (q : QB S r n par b) :
    QB S r n (Gu par y z) fun x => if x = y then k + 1 else b x := by
  have here : ∀ w, AvN S r w (k + 1) y → ¬ UpTo (Gu par y z) y w := fun w hw hu => by
    rcases h.here.1 hu with rfl | hu
    · exact hw.av.ne rfl
    · cases hw with
      | root hr _ => exact h.hr rfl
      | @step _ p _ hp hyp hne =>
        have hpn := Wv hS hrn hp.av.rc; have hpp := full p hpn hp.av.rc; exact q p hpn hpp w (hp.mono (hb p hpn).1) ((h.best w).1 hu p hpn hyp hpp)
  intro x hx hxp w hw hu
  dsimp only at hw
  by_cases e : x = y
  · subst e; rw [if_pos rfl] at hw; exact here w hw hu
  · rw [if_neg e] at hw; unfold Gu at hxp; rw [if_neg e] at hxp; rcases anc_upd_inv hu with h1 | ⟨h1, h2⟩
    · exact q x hx hxp w hw h1
    · rcases hw.via y with h3 | h3
      · exact q x hx hxp y h3 h1
      · exact here w (h3.mono (hb x hx).2) h2
theorem exact_of (h : Inv S r n at_ par) {K : Nat} (hK : ∀ z, z < n → ∀ x, x < n → Av S r z x → AvN S r z K x) (q : QB S r n par fun _ => K) : Exact S r n par := fun x hx hp d => by
  constructor
  · intro hu ha; exact q x hx hp d (hK d (h.anc hu hx hp).1 x hx ha) hu
  · intro ha; exact Classical.byContradiction fun hn => ha (h.all x hx hp d hn)
theorem Better.same {y z : Nat} (h : Better S r n at_ par y z) (hS : ∀ x, x < n → ∀ w ∈ S x, w < n) (hrn : r < n) (full : Y6 S r n par) (hy2 : par y ≠ -2) (ex : Exact S r n par) : par y = (z : Int) := by
  obtain ⟨hzz, hz2, hzl, hzf⟩ := h.zlt; rcases h.inv.kind y h.hy with h1 | h1 | ⟨q, hq⟩
  · exact absurd h1 hy2
  · exact absurd h1 h.hr
  · obtain ⟨q1, q2, q3, q4⟩ := h.inv.up y h.hy q hq
    have key : ∀ w, UpTo par z w ↔ UpTo par q w := fun w => by
      rw [h.best w]
      constructor
      · intro hall
        have hwy : ¬ Av S r w y := fun ha => by
          cases ha with
          | root _ => exact h.hr rfl
          | @step p _ hp hyp hne =>
            have hpn := Wv hS hrn hp.rc; have hpp := full p hpn hp.rc; exact (ex p hpn hpp w).1 (hall p hpn hyp hpp) hp
        rcases (anc_up hq).1 ((ex y h.hy hy2 w).2 hwy) with rfl | hu
        · have := (h.inv.anc ((h.best _).2 hall) h.hz hz2).2.2.1; omega
        · exact hu
      · intro hu p hp hyp hpp; have hwy : UpTo par y w := .up hq hu; refine (ex p hp hpp w).2 fun ha => ?_
        have hne : y ≠ w := by rintro rfl; have := (h.inv.anc hu q1 q2).2.2.1; omega
        exact (ex y h.hy hy2 w).1 hwy (.step ha hyp hne)
    have := h.inv.antisymm ((key q).2 (.refl _)) ((key z).1 (.refl _)) h.hz hz2; rw [hq, this]
theorem exact_fix (h : Inv S r n at_ par) (hS : ∀ x, x < n → ∀ w ∈ S x, w < n) (hrn : r < n) (full : Y6 S r n par) (fix : ∀ y, y < n → y ≠ r → Rc S r y → ∃ z : Nat, par y = (z : Int) ∧ Zk S n par y z) : Exact S r n par := fun x hx hp d => by
  constructor
  · intro hu ha
    induction ha with
    | root hne => exact hne (h.root_anc.1 hu).symm
    | @step p y hp' hyp hne ih =>
      have hpn := Wv hS hrn hp'.rc; have hpp := full p hpn hp'.rc
      by_cases e : y = r
      · subst e; exact hne (h.root_anc.1 hu).symm
      · obtain ⟨z, hz, hb⟩ := fix y hx e (.step hp'.rc hyp); rcases (anc_up hz).1 hu with rfl | hu
        · exact hne rfl
        · exact ih hpn hpp ((hb d).1 hu p hpn hyp hpp)
  · intro ha; exact Classical.byContradiction fun hn => ha (h.all x hx hp d hn)
end
def Bh (t : List Int) : Nat → Int := fun x => t.getD x 0
theorem Xk {t : List Int} {y : Nat} {v : Int} (hy : y < t.length) : Bh (t.set y v) = Gu (Bh t) y v := by
  funext x
  unfold Bh Gu
  by_cases e : x = y
  · subst e; simp [List.getD, hy]
  · simp [List.getD, e, Ne.symm e]
open Classical in
def Gh (S : Nat → List Nat) (n : Nat) (t : List Int) (y : Nat) : Nat := if h : ∃ z, z < n ∧ Zk S n (Bh t) y z then Classical.choose h else 0
def Kw (S : Nat → List Nat) (n : Nat) (P : List Nat) (t : List Int) : Nat → List Int
  | 0 => t
  | i + 1 => (Kw S n P t i).set (P.getD i 0) (Gh S n (Kw S n P t i) (P.getD i 0) : Int)
def Qe (S : Nat → List Nat) (n : Nat) (P : List Nat) (t : List Int) : Nat → List Int
  | 0 => t
  | j + 1 => Kw S n P (Qe S n P t j) P.length
def Dx (n r : Nat) : List Int := (List.replicate n (-2 : Int)).set r (-1)
structure Ordered (S : Nat → List Nat) (r n : Nat) (P : List Nat) : Prop where
  hr : r < n
  hS : ∀ x, x < n → ∀ w ∈ S x, w < n
  nodup : (r :: P).Nodup
  mem : ∀ x, x ∈ r :: P ↔ Rc S r x
  fwd : ∀ i, i < P.length → ∃ p, p ∈ r :: P.take i ∧ P.getD i 0 ∈ S p
section
variable {S : Nat → List Nat} {r n : Nat} {P : List Nat}
theorem Ordered.lt (o : Ordered S r n P) {x : Nat} (h : x ∈ r :: P) : x < n := Wv o.hS o.hr ((o.mem x).1 h)
theorem H5 {i : Nat} (hi : i < P.length) : P.getD i 0 ∈ P := by rw [Ag _ _ _ hi]; exact List.getElem_mem hi
theorem Ordered.at_lt (o : Ordered S r n P) {i : Nat} (hi : i < P.length) {p : Nat} (hp : p ∈ r :: P.take i) : pos (r :: P) p < pos (r :: P) (P.getD i 0) := by
  have hd := o.nodup
  have h1 : pos (r :: P) (P.getD i 0) = i + 1 := by
    have := (Iu hd (i := i + 1) (by simpa using hi)).2; rw [Ag _ _ _ hi]
    simpa using this
  rw [h1]; obtain ⟨j, hj, rfl⟩ := List.getElem_of_mem hp
  have hj' : j < i + 1 := by simp at hj; omega
  have hjl : j < (r :: P).length := by simp; omega
  have e : (r :: P.take i)[j] = (r :: P)[j] := by
    cases j with
    | zero => rfl
    | succ j => simp
  rw [e, (Iu hd hjl).2]; exact hj'
theorem inv0 (o : Ordered S r n P) : Inv S r n (pos (r :: P)) (Bh (Dx n r)) ∧ (Dx n r).length = n ∧ Bh (Dx n r) r ≠ -2 := by
  have hlen : (Dx n r).length = n := by simp [Dx]
  have hr := o.hr
  have at_ : ∀ x, x < n → Bh (Dx n r) x = if x = r then -1 else -2 := fun x hx => by
    unfold Bh Dx
    by_cases e : x = r
    · subst e; simp [List.getD, hx]
    · simp [List.getD, hx, e, Ne.symm e]
  have hno : ∀ x, x < n → ∀ p : Nat, Bh (Dx n r) x ≠ (p : Int) := fun x hx p hp => by rw [at_ x hx] at hp; split at hp <;> omega
  refine ⟨⟨by rw [at_ r hr, if_pos rfl], fun x hx => ?_, fun x hx z hz => absurd hz (hno x hx z), fun x hx hp => ?_, fun x hx hp d hd => ?_⟩, hlen, by rw [at_ r hr, if_pos rfl]; omega⟩
  · by_cases e : x = r
    · exact .inr (.inl e)
    · exact .inl (by rw [at_ x hx, if_neg e])
  · by_cases e : x = r
    · subst e; exact .root
    · exact absurd (by rw [at_ x hx, if_neg e]) hp
  · by_cases e : x = r
    · subst e; exact .root (fun e => hd (by rw [e]; exact .refl _))
    · exact absurd (by rw [at_ x hx, if_neg e]) hp
structure Ready (S : Nat → List Nat) (r n : Nat) (P : List Nat) (t : List Int) (i : Nat) : Prop where
  inv : Inv S r n (pos (r :: P)) (Bh t)
  len : t.length = n
  done : ∀ x ∈ r :: P.take i, Bh t x ≠ -2
theorem Inv.meets {at_ : Nat → Nat} {par : Nat → Int} (h : Inv S r n at_ par) (hinj : ∀ x y, x < n → y < n → par x ≠ -2 → par y ≠ -2 → at_ x = at_ y → x = y) (hr : at_ r = 0) : ∀ m a b, at_ a + at_ b ≤ m → a < n → b < n → par a ≠ -2 → par b ≠ -2 → ∃ c, MeetAt par a b c ∧ c < n ∧ par c ≠ -2 := by
  intro m
  induction m with
  | zero =>
    intro a b hm ha hb hpa hpb; have : a = b := hinj a b ha hb hpa hpb (by omega); subst this; exact ⟨a, Ul, ha, hpa⟩
  | succ m ih =>
    have go : ∀ a b, at_ a + at_ b ≤ m + 1 → a < n → b < n → par a ≠ -2 → par b ≠ -2 → at_ b ≤ at_ a → ∃ c, MeetAt par a b c ∧ c < n ∧ par c ≠ -2 := fun a b hm ha hb hpa hpb hl => by
      by_cases e : a = b
      · subst e; exact ⟨a, Ul, ha, hpa⟩
      · rcases h.kind a ha with h1 | h1 | ⟨p, hp⟩
        · exact absurd h1 hpa
        · subst h1; exact absurd (hinj a b ha hb hpa hpb (by omega)) e
        · obtain ⟨p1, p2, p3, p4⟩ := h.up a ha p hp; obtain ⟨c, hc, hc2⟩ := ih p b (by omega) p1 hb p2 hpb; exact ⟨c, h.meet_left hinj ha hpa hb hpb e hl hp hc, hc2⟩
    intro a b hm ha hb hpa hpb; rcases Nat.le_total (at_ b) (at_ a) with hl | hl
    · exact go a b hm ha hb hpa hpb hl
    · obtain ⟨c, hc, hc2⟩ := go b a (by omega) hb ha hpb hpa hl; exact ⟨c, meet_swap hc, hc2⟩
theorem Ready.inj (o : Ordered S r n P) {t : List Int} {i : Nat} (h : Ready S r n P t i) : ∀ x y, x < n → y < n → Bh t x ≠ -2 → Bh t y ≠ -2 → pos (r :: P) x = pos (r :: P) y → x = y := fun x y hx hy hpx hpy he => by
  have hm : ∀ x, x < n → Bh t x ≠ -2 → x ∈ r :: P := fun x hx hp => (o.mem x).2 (h.inv.rc x hx hp)
  have back : ∀ x ∈ r :: P, (r :: P).getD (pos (r :: P) x) 0 = x := fun x hx => by
    obtain ⟨j, hj, rfl⟩ := List.getElem_of_mem hx; rw [(Iu o.nodup hj).2, Ag _ _ _ hj]
  rw [← back x (hm x hx hpx), ← back y (hm y hy hpy), he]
theorem Xf : pos (r :: P) r = 0 := by rw [Sq, if_pos rfl]
theorem Ready.meetAll (o : Ordered S r n P) {t : List Int} {i : Nat} (h : Ready S r n P t i) : ∀ l : List Nat, (∀ p ∈ l, p < n ∧ Bh t p ≠ -2) → l ≠ [] → ∃ z, z < n ∧ Bh t z ≠ -2 ∧ ∀ w, UpTo (Bh t) z w ↔ ∀ p ∈ l, UpTo (Bh t) p w := by
  intro l
  induction l with
  | nil => intro _ hn; exact absurd rfl hn
  | cons p l ih =>
    intro hl _; obtain ⟨hp1, hp2⟩ := hl p (List.mem_cons_self ..)
    by_cases hl0 : l = []
    · subst hl0; exact ⟨p, hp1, hp2, fun w => by simp⟩
    · obtain ⟨z, hz1, hz2, hz3⟩ := ih (fun q hq => hl q (List.mem_cons_of_mem _ hq)) hl0; obtain ⟨c, hc1, hc2, hc3⟩ := h.inv.meets (h.inj o) Xf _ p z (Nat.le_refl _) hp1 hz1 hp2 hz2; exact ⟨c, hc2, hc3, fun w => by rw [hc1 w, hz3 w]; simp⟩
theorem Ready.best (o : Ordered S r n P) {t : List Int} {i : Nat} (h : Ready S r n P t i) (hi : i < P.length) : Better S r n (pos (r :: P)) (Bh t) (P.getD i 0) (Gh S n t (P.getD i 0)) := by
  have hy := H5 hi; have hyr : P.getD i 0 ≠ r := fun e => (List.nodup_cons.1 o.nodup).1 (e ▸ hy); have hyn := o.lt (List.mem_cons_of_mem _ hy); obtain ⟨p, hp, hyp⟩ := o.fwd i hi; have hp2 := h.done p hp
  have hpP : p ∈ r :: P := by
    rcases List.mem_cons.1 hp with rfl | hp
    · exact List.mem_cons_self ..
    · exact List.mem_cons_of_mem _ (List.mem_of_mem_take hp)
  have hpn := o.lt hpP
  have hex : ∃ z, z < n ∧ Zk S n (Bh t) (P.getD i 0) z := by
    classical
    obtain ⟨z, hz1, hz2, hz3⟩ := h.meetAll o ((List.range n).filter fun p => decide (P.getD i 0 ∈ S p ∧ Bh t p ≠ -2)) (fun p hp => by
      obtain ⟨h1, h2⟩ := List.mem_filter.1 hp
      exact ⟨List.mem_range.1 h1, (of_decide_eq_true h2).2⟩) (fun e => by
      have : p ∈ (List.range n).filter fun p => decide (P.getD i 0 ∈ S p ∧ Bh t p ≠ -2) := List.mem_filter.2 ⟨List.mem_range.2 hpn, decide_eq_true ⟨hyp, hp2⟩⟩
      rw [e] at this; cases this)
    refine ⟨z, hz1, fun w => ?_⟩; rw [hz3 w]
    constructor
    · intro k p hp hyp hpp; exact k p (List.mem_filter.2 ⟨List.mem_range.2 hp, decide_eq_true ⟨hyp, hpp⟩⟩)
    · intro k p hp; obtain ⟨h1, h2⟩ := List.mem_filter.1 hp; exact k p (List.mem_range.1 h1) (of_decide_eq_true h2).1 (of_decide_eq_true h2).2
  have hb : Gh S n t (P.getD i 0) < n ∧ Zk S n (Bh t) (P.getD i 0) (Gh S n t (P.getD i 0)) := by
    unfold Gh; rw [dif_pos hex]; exact Classical.choose_spec hex
  exact ⟨h.inv, hyn, hyr, hb.1, hb.2, p, hpn, hyp, hp2, o.at_lt hi hp⟩
theorem Ready.best_eq (o : Ordered S r n P) {t : List Int} {i : Nat} (h : Ready S r n P t i) (hi : i < P.length) {z : Nat} (hz : z < n) (hz2 : Bh t z ≠ -2) (hb : Zk S n (Bh t) (P.getD i 0) z) : z = Gh S n t (P.getD i 0) := by
  have b := h.best o hi; exact (h.inv.antisymm ((hb _).2 ((b.best _).1 (.refl _))) ((b.best _).2 ((hb _).1 (.refl _))) hz hz2).symm
theorem Ready.next (o : Ordered S r n P) {t : List Int} {i : Nat} (h : Ready S r n P t i) (hi : i < P.length) : Ready S r n P (t.set (P.getD i 0) (Gh S n t (P.getD i 0) : Int)) (i + 1) := by
  have b := h.best o hi; have e := Xk (t := t) (y := P.getD i 0) (v := (Gh S n t (P.getD i 0) : Int)) (by rw [h.len]; exact b.hy); refine ⟨by rw [e]; exact b.inv', by rw [List.length_set]; exact h.len, fun x hx => ?_⟩; rw [e]; unfold Gu
  split
  · omega
  · rename_i hne
    refine h.done x ?_; rcases List.mem_cons.1 hx with rfl | hx
    · exact List.mem_cons_self ..
    · rw [List.take_succ_eq_append_getElem hi] at hx; rcases List.mem_append.1 hx with hx | hx
      · exact List.mem_cons_of_mem _ hx
      · rw [List.mem_singleton, ← Ag _ _ 0 hi] at hx; exact absurd hx hne
theorem Ready.more (o : Ordered S r n P) {t : List Int} (h : Ready S r n P t P.length) (i : Nat) : Ready S r n P t i :=
  ⟨h.inv, h.len, fun x hx => h.done x (by
    rw [List.take_length]; rcases List.mem_cons.1 hx with rfl | hx
    · exact List.mem_cons_self ..
    · exact List.mem_cons_of_mem _ (List.mem_of_mem_take hx))⟩
theorem Ready.full (o : Ordered S r n P) {t : List Int} (h : Ready S r n P t P.length) : Y6 S r n (Bh t) := fun x hx hr => h.done x (by rw [List.take_length]; exact (o.mem x).2 hr)
theorem Ready.round (o : Ordered S r n P) {t : List Int} (h : Ready S r n P t 0) : ∀ i, i ≤ P.length → Ready S r n P (Kw S n P t i) i := by
  intro i
  induction i with
  | zero => intro _; exact h
  | succ i ih => intro hi; exact (ih (by omega)).next o (by omega)
theorem ready0 (o : Ordered S r n P) : Ready S r n P (Dx n r) 0 := by
  obtain ⟨h1, h2, h3⟩ := inv0 o; exact ⟨h1, h2, fun x hx => by simp at hx; subst hx; exact h3⟩
theorem Ready.rounds (o : Ordered S r n P) : ∀ j, Ready S r n P (Qe S n P (Dx n r) j) 0 := by
  intro j
  induction j with
  | zero => exact ready0 o
  | succ j ih => exact ((ih.round o) P.length (Nat.le_refl _)).more o 0
theorem Ready.rounds' (o : Ordered S r n P) (j : Nat) : Ready S r n P (Qe S n P (Dx n r) (j + 1)) P.length := (Ready.rounds o j).round o P.length (Nat.le_refl _)
theorem qb_round (o : Ordered S r n P) {t : List Int} {k : Nat} (h : Ready S r n P t P.length) (q : QB S r n (Bh t) fun _ => k) : QB S r n (Bh (Kw S n P t P.length)) fun _ => k + 1 := by
  have key : ∀ i, i ≤ P.length → QB S r n (Bh (Kw S n P t i)) (fun x => if x ∈ P.take i then k + 1 else k) ∧ Y6 S r n (Bh (Kw S n P t i)) := by
    intro i
    induction i with
    | zero => intro _; exact ⟨by simpa [Kw] using q, h.full o⟩
    | succ i ih =>
      intro hi; obtain ⟨q1, f1⟩ := ih (by omega); have rd := (h.more o 0).round o i (by omega); have b := rd.best o (by omega); have e := Xk (t := Kw S n P t i) (y := P.getD i 0) (v := (Gh S n (Kw S n P t i) (P.getD i 0) : Int)) (by rw [rd.len]; exact b.hy)
      constructor
      · show QB S r n (Bh ((Kw S n P t i).set _ _)) _
        rw [e]; have := b.qb (k := k) o.hS o.hr f1 (fun x _ => by split <;> omega) q1; intro x hx hp z hz; refine this x hx hp z ?_
        dsimp only at hz ⊢
        rw [List.take_succ_eq_append_getElem (by omega : i < P.length)] at hz
        by_cases e1 : x = P.getD i 0
        · rw [if_pos e1]; rwa [if_pos (List.mem_append.2 (.inr (List.mem_singleton.2 (by rw [e1, Ag _ _ _ (by omega : i < P.length)]))))] at hz
        · rw [if_neg e1]
          by_cases e2 : x ∈ P.take i
          · rw [if_pos e2]; rwa [if_pos (List.mem_append.2 (.inl e2))] at hz
          · rw [if_neg e2]
            rwa [if_neg (fun hm => by
              rcases List.mem_append.1 hm with hm | hm
              · exact e2 hm
              · rw [List.mem_singleton, ← Ag _ _ 0 (by omega : i < P.length)] at hm; exact e1 hm)] at hz
      · show Y6 S r n (Bh ((Kw S n P t i).set _ _))
        rw [e]; intro x hx hr; unfold Gu
        split
        · omega
        · exact f1 x hx hr
  have q1 := (key P.length (Nat.le_refl _)).1; rw [List.take_length] at q1; have rd := (h.more o 0).round o P.length (Nat.le_refl _); intro x hx hp z hz; refine q1 x hx hp z ?_
  dsimp only at hz ⊢
  by_cases e : x ∈ P
  · rw [if_pos e]; exact hz
  · rw [if_neg e]
    have hxr : x = r := by
      rcases List.mem_cons.1 ((o.mem x).2 (rd.inv.rc x hx hp)) with h1 | h1
      · exact h1
      · exact absurd h1 e
    subst hxr; exact .root hz.av.ne k
def Kq (S : Nat → List Nat) (n : Nat) (P : List Nat) (t : List Int) : Prop := ∀ i, i < P.length → Bh t (P.getD i 0) = (Gh S n t (P.getD i 0) : Int)
theorem Ls {t : List Int} (o : Ordered S r n P) (hl : t.length = n) (h : Kq S n P t) : ∀ i, i ≤ P.length → Kw S n P t i = t := by
  intro i
  induction i with
  | zero => intro _; rfl
  | succ i ih =>
    intro hi; unfold Kw; rw [ih (by omega), ← h i (by omega)]
    have hlt : P.getD i 0 < t.length := by rw [hl]; exact o.lt (List.mem_cons_of_mem _ (H5 (by omega)))
    unfold Bh; rw [Ag _ _ _ hlt]; exact List.set_getElem_self hlt
theorem stops (o : Ordered S r n P) : ∃ J, (∀ j, j < J → ¬ Kq S n P (Qe S n P (Dx n r) j)) ∧ Kq S n P (Qe S n P (Dx n r) J) := by
  obtain ⟨K, hK⟩ := avn_bound (S := S) (r := r) n
  have hq : ∀ k, QB S r n (Bh (Qe S n P (Dx n r) (k + 1))) fun _ => k := by
    intro k
    induction k with
    | zero => exact qb_zero (Ready.rounds' o 0).inv
    | succ k ih => exact qb_round o (Ready.rounds' o k) ih
  have hst : Kq S n P (Qe S n P (Dx n r) (K + 1)) := fun i hi => by
    have rd := Ready.rounds' o K; exact ((rd.more o i).best o hi).same o.hS o.hr (rd.full o) (rd.done _ (List.mem_cons_of_mem _ (by rw [List.take_length]; exact H5 hi))) (exact_of rd.inv hK (hq K))
  have key : ∀ m, (∃ J, J ≤ m ∧ Kq S n P (Qe S n P (Dx n r) J)) → ∃ J, (∀ j, j < J → ¬ Kq S n P (Qe S n P (Dx n r) j)) ∧ Kq S n P (Qe S n P (Dx n r) J) := by
    intro m
    induction m with
    | zero => rintro ⟨J, hJ, h⟩; exact ⟨J, fun j hj => by omega, h⟩
    | succ m ih =>
      rintro ⟨J, hJ, h⟩
      by_cases hm : ∃ J, J ≤ m ∧ Kq S n P (Qe S n P (Dx n r) J)
      · exact ih hm
      · exact ⟨J, fun j hj hs => hm ⟨j, by omega, hs⟩, h⟩
  exact key (K + 1) ⟨K + 1, Nat.le_refl _, hst⟩
structure DomTree (S : Nat → List Nat) (r n : Nat) (P : List Nat) (t : List Int) : Prop where
  inv : Inv S r n (pos (r :: P)) (Bh t)
  len : t.length = n
  full : Y6 S r n (Bh t)
  exact_ : Exact S r n (Bh t)
theorem Po (o : Ordered S r n P) {j : Nat} (h : Kq S n P (Qe S n P (Dx n r) j)) : DomTree S r n P (Qe S n P (Dx n r) j) := by
  have rd := Ready.rounds o j
  have hall : Ready S r n P (Qe S n P (Dx n r) j) P.length := by
    have := rd.round o P.length (Nat.le_refl _); rwa [Ls o rd.len h P.length (Nat.le_refl _)] at this
  refine ⟨rd.inv, rd.len, hall.full o, exact_fix rd.inv o.hS o.hr (hall.full o) fun y hy hne hr => ?_⟩
  have hm : y ∈ P := by
    rcases List.mem_cons.1 ((o.mem y).2 hr) with h1 | h1
    · exact absurd h1 hne
    · exact h1
  obtain ⟨i, hi, rfl⟩ := List.getElem_of_mem hm; have b := (hall.more o i).best o hi; rw [Ag _ _ _ hi] at b; have hs := h i hi; rw [Ag _ _ _ hi] at hs; exact ⟨_, hs, b.best⟩
end
end
end Go.Proofs.Ytjpacggpipflcaa

namespace Go.Proofs.Ytjpacggpipflcaa
noncomputable section
open Go Go.RowKit
set_option linter.unusedVariables false
set_option linter.unusedSimpArgs false
section
variable {S : Nat → List Nat} {s s' : Nat → Bool} {l o : List Nat}
theorem VL.before (h : VL S s l s' o) : ∀ A z B, o = A ++ z :: B → z ∈ l ∨ ∃ p ∈ B, z ∈ S p := by
  induction h with
  | nil s => intro A z B e; simp at e
  | skip h _ ih =>
    intro A z B e; rcases ih A z B e with h1 | h1
    · exact .inl (List.mem_cons_of_mem _ h1)
    · exact .inr h1
  | @step s s1 s2 y l o1 o2 h a b iha ihb =>
    intro A z B e; rcases List.append_eq_append_iff.1 e with ⟨C, hC1, hC2⟩ | ⟨C, hC1, hC2⟩
    ·
      cases C with
      | nil =>
        simp at hC2; obtain ⟨rfl, rfl⟩ := hC2; exact .inl (List.mem_cons_self ..)
      | cons c C =>
        simp at hC2; obtain ⟨rfl, hC2⟩ := hC2; rcases ihb C z B hC2 with h1 | h1
        · exact .inl (List.mem_cons_of_mem _ h1)
        · exact .inr h1
    · cases C with
      | nil =>
        simp at hC2; obtain ⟨rfl, rfl⟩ := hC2; exact .inl (List.mem_cons_self ..)
      | cons c C =>
        simp at hC2; obtain ⟨rfl, rfl⟩ := hC2; rcases iha A z C hC1 with h1 | ⟨p, hp, hz⟩
        · exact .inr ⟨y, by simp, h1⟩
        · exact .inr ⟨p, by simp [hp], hz⟩
theorem Ord.ordered {n r : Nat} {L : List Nat} (hr : r < n) (hS : ∀ x, x < n → ∀ w ∈ S x, w < n) (h : Ord S r L) : ∃ P, L = r :: P ∧ Ordered S r n P := by
  have h1 := h.nodup; have h2 := h.mem; obtain ⟨s', o, hv, rfl⟩ := h; refine ⟨o.reverse, rfl, hr, hS, h1, fun x => by rw [h2 x, rc_iff], fun i hi => ?_⟩
  have hi' : i < o.length := by simpa using hi
  have e : o.reverse = o.reverse.take i ++ o.reverse[i] :: o.reverse.drop (i + 1) := by rw [← List.drop_eq_getElem_cons hi, List.take_append_drop]
  have e2 : o = (o.reverse.drop (i + 1)).reverse ++ o.reverse[i] :: (o.reverse.take i).reverse := by
    have := congrArg List.reverse e; rw [List.reverse_reverse] at this; rw [List.reverse_append, List.reverse_cons] at this
    simpa using this
  rw [Ag _ _ _ hi]; rcases hv.before _ _ _ e2 with h3 | ⟨p, hp, hz⟩
  · exact ⟨r, List.mem_cons_self .., h3⟩
  · exact ⟨p, List.mem_cons_of_mem _ (List.mem_reverse.1 hp), hz⟩
end
def Zg (S : Nat → List Nat) (w : Int) : Nat → List Nat := fun x => (S x).filter fun y => decide ((y : Int) ≠ w)
theorem woI_none (S : Nat → List Nat) : Zg S (-1) = S := by
  funext x
  unfold Zg; exact List.filter_eq_self.2 fun y _ => decide_eq_true (by omega)
theorem woI_nat (S : Nat → List Nat) (z : Nat) : Zg S (z : Int) = wo S z := by
  funext x
  unfold Zg wo
  congr 1
  funext y
  exact decide_eq_decide.2 ⟨fun h e => h (by rw [e]), fun h e => h (Int.ofNat.inj e)⟩
def Ee (L : List (List Int)) (r : Nat) (w : Int) : List Bool := if (r : Int) = w then List.replicate L.length false else Rk (Zg (sN L) w) L.length ((List.replicate L.length false).set r true) L.length
theorem Qz (L : List (List Int)) (r : Nat) (w : Int) : (Ee L r w).length = L.length := by
  unfold Ee
  split
  · simp
  · rw [Qd]; simp
theorem Xb {L : List (List Int)} (hm : Et L = true) {r : Nat} (hr : r < L.length) (w : Int) :
    Co (Gz L) (r : Int) w = some (Ee L r w) := by
  obtain ⟨h1, h2, h3⟩ := mayS_iff.1 hm
  have hroom : (1000 : Nat) ≤ room := by decide
  have hS := Lj hm; have hSw : ∀ z, z < L.length → ∀ y ∈ Zg (sN L) w z, y < L.length := fun z hz y hy => hS z hz y (List.mem_filter.1 hy).1; have hgs : (Gz L).Succ = L := rfl
  have hlenS : ∀ a, (sN L a).length = (L.getD a []).length := fun a => by simp [sN]
  let fl : List Nat → List Nat := fun l => l.filter fun y => decide ((y : Int) ≠ w)
  have hin : ∀ (o : List Bool) (i : Nat), o.length = L.length → i < L.length → At (Bl (Gz L) w (i : Int)) ((0 : Int), o) = some (if o.getD i false = true then mk o (Zg (sN L) w i) else o) := fun o i ho hi => by
    have hb := H4 (h3 i hi)
    by_cases hoi : o.getD i false = true
    · rw [if_pos hoi]; have hmi : ∀ k, (mk o (fl ((sN L i).take k))).getD i false = true := fun k => (mk_at (n := L.length) _ _ ho (fun y hy => hS i hi y (List.mem_of_mem_take (List.mem_filter.1 hy).1)) i).2 (.inl hoi)
      have hml : ∀ k, (mk o (fl ((sN L i).take k))).length = L.length := fun k => by rw [mk_len, ho]
      refine Dg (Bl (Gz L) w (i : Int)) (fun k => (((k : Nat) : Int), mk o (fl ((sN L i).take k)))) _ (L.getD i []).length (fun k hk => ?_) ?_
      · show Bl (Gz L) w (i : Int) (_, _) = _
        unfold Bl; obtain ⟨a0, a1⟩ := Nq (h3 i hi) hk; simp only [hgs, Aq, hmi]; rw [Ac (D5 (by rw [hml]; exact hi)), N3 (D5 hi), cond_true, C4 hk, cond_true, Ac (D5 hi), Ac (D5 hk)]
        have hk' : k < (sN L i).length := by rw [hlenS]; exact hk
        have hsk : (sN L i)[k] = ((L.getD i []).getD k 0).toNat := by rw [Ag _ _ _ hk]; simp [sN]
        have hski : (((sN L i)[k] : Nat) : Int) = (L.getD i []).getD k 0 := by rw [hsk]; exact Int.toNat_of_nonneg a0
        have e : mk o (fl ((sN L i).take (k + 1))) = if (L.getD i []).getD k 0 = w then mk o (fl ((sN L i).take k)) else (mk o (fl ((sN L i).take k))).set ((L.getD i []).getD k 0).toNat true := by
          rw [List.take_succ_eq_append_getElem hk']
          show mk o (List.filter _ (_ ++ [_])) = _
          rw [List.filter_append]
          by_cases hw : (L.getD i []).getD k 0 = w
          · rw [if_pos hw]
            have : List.filter (fun y : Nat => decide ((y : Int) ≠ w)) [(sN L i)[k]] = [] := by rw [List.filter_cons, hski, hw]; simp
            rw [this, List.append_nil]
          · rw [if_neg hw]
            have : List.filter (fun y : Nat => decide ((y : Int) ≠ w)) [(sN L i)[k]] = [(sN L i)[k]] := by rw [List.filter_cons, hski, if_pos (decide_eq_true hw)]; rfl
            rw [this]; unfold mk; rw [List.foldl_append, hsk]
            rfl
        by_cases hw : (L.getD i []).getD k 0 = w
        · have hne : ((L.getD i []).getD k 0 != w) = false := by rw [hw]; simp
          rw [hne, cond_false, Option.bind_some, w1 (by omega), e, if_pos hw]
        · have hne : ((L.getD i []).getD k 0 != w) = true := by rw [bne_iff_ne]; exact hw
          rw [hne, cond_true, Ac (D5 hi), Ac (D5 hk), Ac ⟨a0, by rw [hml]; exact a1⟩, w1 (by omega), e, if_neg hw]
          rfl
      · show Bl (Gz L) w (i : Int) (_, _) = _
        unfold Bl; simp only [hgs, Aq, hmi]; rw [Ac (D5 (by rw [hml]; exact hi)), N3 (D5 hi), cond_true, Eg, cond_false]
        have : (sN L i).take (L.getD i []).length = sN L i := by rw [← hlenS]; exact List.take_length ..
        rw [this]
        rfl
    · have hof : o.getD i false = false := by simpa using hoi
      rw [if_neg hoi]
      apply A4
      unfold Bl; simp only [hgs, Aq, hof]; rw [Ac (D5 (by rw [ho]; exact hi)), N3 (D5 hi), cond_false, cond_false]
  have hsw : ∀ o : List Bool, o.length = L.length → At (Bt (Gz L) w) ((0 : Int), o) = some (sw (Zg (sN L) w) o L.length) := fun o ho => by
    refine Dg (Bt (Gz L) w) (fun i => (((i : Nat) : Int), sw (Zg (sN L) w) o i)) _ L.length (fun i hi => ?_) ?_
    · show Bt (Gz L) w (_, _) = _
      unfold Bt
      have hl : (sw (Zg (sN L) w) o i).length = L.length := by rw [L1, ho]
      simp only [hl, C4 hi, cond_true]; rw [hin _ i hl hi, w1 (by omega)]
      rfl
    · show Bt (Gz L) w (_, _) = _
      unfold Bt
      have hl : (sw (Zg (sN L) w) o L.length).length = L.length := by rw [L1, ho]
      simp only [hl, Eg, cond_false]
  unfold Co; simp only [hgs, Aq]; rw [Ac ⟨by omega, Int.le_refl _, by omega⟩]; unfold Ee
  by_cases hrw : (r : Int) = w
  · rw [if_pos hrw]
    have : ((r : Int) == w) = true := by simpa using hrw
    rw [this, cond_true]
  · rw [if_neg hrw]
    have hne : ((r : Int) == w) = false := by rw [beq_eq_false_iff_ne]; exact hrw
    rw [hne, cond_false, Ac (D5 (by simpa using hr))]
    have hl0 : ((List.replicate L.length false).set r true).length = L.length := by simp
    have : At (Bu (Gz L) w) ((0 : Int), (List.replicate L.length false).set r true) = some (Rk (Zg (sN L) w) L.length ((List.replicate L.length false).set r true) L.length) := by
      refine Dg (Bu (Gz L) w) (fun j => (((j : Nat) : Int), Rk (Zg (sN L) w) L.length ((List.replicate L.length false).set r true) j)) _ L.length (fun j hj => ?_) ?_
      · show Bu (Gz L) w (_, _) = _
        unfold Bu
        have hl : (Rk (Zg (sN L) w) L.length ((List.replicate L.length false).set r true) j).length = L.length := by rw [Qd, hl0]
        simp only [hl, C4 hj, cond_true]; rw [hsw _ hl, w1 (by omega)]
        rfl
      · show Bu (Gz L) w (_, _) = _
        unfold Bu
        have hl : (Rk (Zg (sN L) w) L.length ((List.replicate L.length false).set r true) L.length).length = L.length := by rw [Qd, hl0]
        simp only [hl, Eg, cond_false]
    rw [this]
    rfl
theorem F2 {L : List (List Int)} (hm : Et L = true) {r : Nat} (hr : r < L.length) {b : Nat} : (Ee L r (-1)).getD b false = true ↔ Rc (sN L) r b := by
  unfold Ee; rw [if_neg (by omega), woI_none, V8 (Lj hm) hr b, rc_iff]
theorem Nm {L : List (List Int)} (hm : Et L = true) {r : Nat} (hr : r < L.length) {a b : Nat} (hb : b < L.length) : (Ee L r (a : Int)).getD b false = true ↔ Av (sN L) r a b := by
  unfold Ee; rw [av_iff]
  by_cases h : r = a
  · subst h; rw [if_pos rfl, F3]
    simp
  · rw [if_neg (by omega), woI_nat, V8 (S := wo (sN L) a) (fun z hz y hy => Lj hm z hz y (List.mem_filter.1 hy).1) hr b]; simp [h]
def G1 (L : List (List Int)) (r a b : Nat) : Bool := (Ee L r (-1)).getD b false && !(Ee L r (a : Int)).getD b false
theorem Ob {L : List (List Int)} (hm : Et L = true) {r a b : Nat} (hr : r < L.length) (hb : b < L.length) : G1 L r a b = true ↔ Rc (sN L) r b ∧ ¬ Av (sN L) r a b := by
  unfold G1; rw [Bool.and_eq_true, Bool.not_eq_true', ← Bool.not_eq_true, F2 hm hr, Nm hm hr hb]
def W2 (L : List (List Int)) (r a b : Nat) : Bool := (List.range L.length).all fun c => decide (c = b) || !G1 L r c b || G1 L r c a
def Xj (L : List (List Int)) (r b : Nat) : Nat → Int
  | 0 => -2
  | a + 1 => if a ≠ b ∧ G1 L r a b = true ∧ W2 L r a b = true then (a : Int) else Xj L r b a
def Zb (L : List (List Int)) (r b : Nat) : Int := if b = r then -1 else Xj L r b L.length
def Hk (L : List (List Int)) (r : Nat) : List Int := (List.range L.length).map (Zb L r)
theorem O9 (L : List (List Int)) (r : Nat) : (Hk L r).length = L.length := by simp [Hk]
theorem treeD_at {L : List (List Int)} {r b : Nat} (hb : b < L.length) : (Hk L r).getD b 0 = Zb L r b := by unfold Hk; rw [Ix hb]
theorem pick_cases (L : List (List Int)) (r b : Nat) : ∀ m, (Xj L r b m = -2 ∧ ∀ a, a < m → ¬ (a ≠ b ∧ G1 L r a b = true ∧ W2 L r a b = true)) ∨ ∃ a, a < m ∧ Xj L r b m = (a : Int) ∧ a ≠ b ∧ G1 L r a b = true ∧ W2 L r a b = true := by
  intro m
  induction m with
  | zero => exact .inl ⟨rfl, fun a ha => absurd ha (Nat.not_lt_zero a)⟩
  | succ m ih =>
    unfold Xj
    by_cases h : m ≠ b ∧ G1 L r m b = true ∧ W2 L r m b = true
    · rw [if_pos h]; exact .inr ⟨m, by omega, rfl, h⟩
    · rw [if_neg h]; rcases ih with ⟨h1, h2⟩ | ⟨a, h1, h2⟩
      · refine .inl ⟨h1, fun a ha => ?_⟩; rcases Nat.lt_succ_iff_lt_or_eq.1 ha with h3 | rfl
        · exact h2 a h3
        · exact h
      · exact .inr ⟨a, by omega, h2⟩
theorem DomTree.eq {L : List (List Int)} (hm : Et L = true) {r : Nat} (hr : r < L.length) {P t : List _} (o : Ordered (sN L) r L.length P) (h : DomTree (sN L) r L.length P t) : t = Hk L r := by
  refine List.ext_getElem (by rw [h.len, O9]) fun b h1 h2 => ?_
  have hb : b < L.length := by rw [← h.len]; exact h1
  rw [← Ag _ _ 0 h1, ← Ag _ _ 0 h2, treeD_at hb]
  show Bh t b = _
  have hov : ∀ a b, b < L.length → Bh t b ≠ -2 → (G1 L r a b = true ↔ UpTo (Bh t) b a) := fun a b hb hp => by
    rw [Ob hm hr hb, h.exact_ b hb hp]; exact ⟨fun k => k.2, fun k => ⟨h.inv.rc b hb hp, k⟩⟩
  unfold Zb
  by_cases hbr : b = r
  · subst hbr; rw [if_pos rfl]; exact h.inv.top
  · rw [if_neg hbr]; rcases h.inv.kind b hb with hk | hk | ⟨z, hz⟩
    ·
      have hn : ¬ Rc (sN L) r b := fun k => h.full b hb k hk; rcases pick_cases L r b L.length with ⟨h3, _⟩ | ⟨a, _, _, _, h6, _⟩
      · rw [hk, h3]
      · exact absurd ((Ob hm hr hb).1 h6).1 hn
    · exact absurd hk hbr
    · obtain ⟨z1, z2, z3, z4⟩ := h.inv.up b hb z hz
      have hp : Bh t b ≠ -2 := by omega
      have hzo : G1 L r z b = true := (hov z b hb hp).2 (.up hz (.refl _))
      have hzb : z ≠ b := by rintro rfl; omega
      have hnear : W2 L r z b = true := all_range.2 fun c hc => by
        by_cases e : c = b
        · simp [e]
        · cases ho : G1 L r c b with
          | false => simp
          | true =>
            have := (hov c b hb hp).1 ho; rcases (anc_up hz).1 this with h3 | h3
            · exact absurd h3 e
            · rw [(hov c z z1 z2).2 h3]; simp
      rcases pick_cases L r b L.length with ⟨_, h3⟩ | ⟨a, h3, h4, h5, h6, h7⟩
      · exact absurd ⟨hzb, hzo, hnear⟩ (h3 z z1)
      · rw [h4, hz]; have haU := (hov a b hb hp).1 h6
        have ha1 : UpTo (Bh t) z a := by
          rcases (anc_up hz).1 haU with h8 | h8
          · exact absurd h8 h5
          · exact h8
        have hap := (h.inv.anc ha1 z1 z2).2.1
        have hza : UpTo (Bh t) a z := by
          have := all_range.1 h7 z z1; simp only [hzo, hzb, decide_false, Bool.not_true, Bool.false_or] at this; exact (hov z a h3 hap).1 this
        rw [h.inv.antisymm ha1 hza z1 z2]
end
end Go.Proofs.Ytjpacggpipflcaa

namespace Go.Proofs.Ytjpacggpipflcaa
noncomputable section
open Go Go.RowKit
set_option linter.unusedVariables false
set_option linter.unusedSimpArgs false
theorem L6 {g : An} (h : Hw g = true) : Et g.Succ = true ∧ g = Gz g.Succ := by
  unfold Hw at h; rw [Bool.and_eq_true] at h; refine ⟨h.1, ?_⟩; obtain ⟨s, p⟩ := g; have := of_decide_eq_true h.2; simp only at this; unfold Gz; rw [this]
section
variable {L : List (List Int)} (hm : Et L = true) {r : Nat} (hr : r < L.length)
include hm hr
omit hr in
omit hr in
omit hm hr in
omit hm hr in
omit hm hr in
omit hr in
omit hr in
end
def treeG (g : An) (r : Int) : List Int := if Hw g = true ∧ 0 ≤ r ∧ r < (g.Succ.length : Int) then Hk g.Succ r.toNat else []
end
end Go.Proofs.Ytjpacggpipflcaa

namespace Go.Proofs.Ytjpacggpipflcaa
noncomputable section
open Go Go.RowKit
set_option linter.unusedVariables false
set_option linter.unusedSimpArgs false
def upD (t : List Int) : Nat → Int → Option (List Int)
  | 0, _ => none
  | k + 1, a => if 0 ≤ a ∧ a < (t.length : Int) then (if t.getD a.toNat 0 = -1 then some [a] else (upD t k (t.getD a.toNat 0)).map fun l => a :: l) else none
def E1 (t : List Int) (a : Int) : List Int := (upD t t.length a).getD []
theorem upD_len (t : List Int) : ∀ k a q, upD t k a = some q → q.length ≤ k ∧ 1 ≤ q.length := by
  intro k
  induction k with
  | zero => intro a q h; cases h
  | succ k ih =>
    intro a q h; unfold upD at h
    split at h
    · split at h
      · cases h; simp
      · cases hu : upD t k (t.getD a.toNat 0) with
        | none => rw [hu] at h; cases h
        | some q' => rw [hu] at h; cases h; have := ih _ _ hu; simp; omega
    · cases h
theorem pathD_nil {t : List Int} {a : Int} : E1 t a = [] ↔ upD t t.length a = none := by
  unfold E1
  cases h : upD t t.length a with
  | none => simp
  | some q => have := (upD_len t _ _ _ h).2; simp; intro e; subst e; simp at this
def Oa (t : List Int) (k : Nat) : Nat := ((List.range k).filter fun a => decide (t.getD a 0 = -1)).length
def okR (t : List Int) (a : Nat) : Bool := decide (t.getD a 0 = -2) || !decide (E1 t (a : Int) = [])
def Fm (t : List Int) : Bool := (List.range t.length).all (okR t) && decide (Oa t t.length = 1)
theorem Sj (t : List Int) (k : Nat) : Oa t (k + 1) = Oa t k + if t.getD k 0 = -1 then 1 else 0 := by
  unfold Oa; rw [List.range_succ, List.filter_append, List.length_append]
  by_cases h : t.getD k 0 = -1
  · rw [if_pos h]
    have : List.filter (fun a => decide (t.getD a 0 = -1)) [k] = [k] := by rw [List.filter_cons, if_pos (decide_eq_true h)]; rfl
    rw [this]; rfl
  · rw [if_neg h]
    have : List.filter (fun a => decide (t.getD a 0 = -1)) [k] = [] := by rw [List.filter_cons, if_neg (by simpa using h)]; rfl
    rw [this]; rfl
def Jj (t : List Int) (a b : Int) : Int := if Fm t = true then ((E1 t a).find? fun x => (E1 t b).contains x).getD (-2) else -2
def Uk (t : List Int) (a b : Int) : Bool := Jj t a b == a && Jj t a b != -2
theorem filt_succ (p : Nat → Bool) (k : Nat) : ((List.range (k + 1)).filter p).map Int.ofNat = ((List.range k).filter p).map Int.ofNat ++ (if p k = true then [(k : Int)] else []) := by
  rw [List.range_succ, List.filter_append, List.map_append]
  congr 1
  cases h : p k with
  | true => simp [List.filter_cons, h]
  | false => simp [List.filter_cons, h]
theorem V2 (p : Nat → Bool) (k : Nat) : (((List.range k).filter p).map Int.ofNat).length ≤ k := by
  rw [List.length_map]; exact Nat.le_trans (List.length_filter_le ..) (by simp)
end
end Go.Proofs.Ytjpacggpipflcaa
