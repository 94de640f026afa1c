/-
  The machine, the program's functions and the laws' arithmetic: part 6 of 7.
-/
import Derived.Test.YtjpacggpipflcaaPk5
set_option linter.unusedVariables false
set_option linter.unusedSimpArgs false
namespace Go.Proofs.Ytjpacggpipflcaa
noncomputable section
open Go Go.RowKit
set_option linter.unusedVariables false
set_option maxRecDepth 100000
set_option maxHeartbeats 2000000
def Cv (a_g : TGraph) (x2 : List (Bool)) (x3 : List ((Int × Int))) (i5 : Int) (i11 : Int) : (Int × List (Bool)) → Option (LR (Int × List (Bool)) (List (Bool))) :=
  fun ((i18, l19) : (Int × List (Bool))) => (bif (decide ((i18 : Int) < (a_g.Succ.length : Int))) then (Bz (A3 i18 l19.length) (Bz ((((l19.getD (i18).toNat false) == false) && (((i18 : Int) != i5) == true)) = true → (A3 i18 x2.length)) ((bif (((l19.getD (i18).toNat false) == false) && ((bif ((i18 : Int) != i5) then (x2.getD (i18).toNat false) else false) == true)) then Bd a_g i18 i5 else some []).bind fun x23 => (Bz ((((l19.getD (i18).toNat false) == false) && ((bif ((i18 : Int) != i5) then (x2.getD (i18).toNat false) else false) == true)) = true → (A3 i11 x3.length)) (Bz ((((l19.getD (i18).toNat false) == false) && ((bif ((i18 : Int) != i5) then (x2.getD (i18).toNat false) else false) == true)) = true → (A3 (x3.getD (i11).toNat ((0 : Int), (0 : Int))).1 x23.length)) (Bz (A3 i18 l19.length) (some (.next ((A9 (i18 + (1 : Int))), (l19.set (i18).toNat (bif (l19.getD (i18).toNat false) then true else (bif (bif ((i18 : Int) != i5) then (x2.getD (i18).toNat false) else false) then (x23.getD ((x3.getD (i11).toNat ((0 : Int), (0 : Int))).1).toNat false) else false)))))))))))) else (some (.done l19)))
def Cw (a_g : TGraph) (x2 : List (Bool)) (x3 : List ((Int × Int))) (i5 : Int) : (Bool × Int × List (Bool)) → Option (LR (Bool × Int × List (Bool)) (Bool × List (Bool))) :=
  fun ((b10, i11, l12) : (Bool × Int × List (Bool))) => (bif (decide ((i11 : Int) < (x3.length : Int))) then (Option.bind (α := (Bool × List (Bool))) (Bz (A3 i11 x3.length) (bif (((x3.getD (i11).toNat ((0 : Int), (0 : Int))).2 : Int) != i5) then (some ((b10, l12))) else ((Au (S := (Int × List (Bool))) (X := List (Bool)) (Cv a_g x2 x3 i5 i11) ((0 : Int), l12)).bind (fun x27 => ((some ((true, x27)))))))) (fun x29 => (match x29 with | (b15, l16) => (some (.next (b15, (A9 (i11 + (1 : Int))), l16)))))) else (some (.done (b10, l12))))
def Cx (a_g : TGraph) (l14 : List (Bool)) : (Int × List (Int)) → Option (LR (Int × List (Int)) (List (Int))) :=
  fun ((i33, l34) : (Int × List (Int))) => (bif (decide ((i33 : Int) < (a_g.Succ.length : Int))) then (Option.bind (α := List (Int)) (Bz (A3 i33 l14.length) (bif (l14.getD (i33).toNat false) then (Bz (l34.length + ([i33] : List (Int)).length ≤ room) (some ((l34 ++ ([i33] : List (Int)))))) else (some (l34)))) (fun x39 => ((some (.next ((A9 (i33 + (1 : Int))), x39)))))) else (some (.done l34)))
def Ct (a_g : TGraph) (x2 : List (Bool)) (x3 : List ((Int × Int))) : (List (At) × Int) → Option (LR (List (At) × Int) (List (At))) :=
  fun ((l4, i5) : (List (At) × Int)) => (bif (decide ((i5 : Int) < (a_g.Succ.length : Int))) then (Option.bind (α := List (At)) (Bz (0 ≤ (a_g.Succ.length : Int) ∧ (a_g.Succ.length : Int) ≤ (a_g.Succ.length : Int) ∧ (a_g.Succ.length : Int) ≤ (room : Int)) (Bz (A3 i5 (List.replicate ((a_g.Succ.length : Int)).toNat false).length) ((Au (S := (Bool × Int × List (Bool))) (X := (Bool × List (Bool))) (Cw a_g x2 x3 i5) (false, (0 : Int), ((List.replicate ((a_g.Succ.length : Int)).toNat false).set (i5).toNat true))).bind (fun x31 => (match x31 with | (b13, l14) => ((Au (S := (Int × List (Int))) (X := List (Int)) (Cx a_g l14) ((0 : Int), ([] : List Int))).bind (fun x41 => ((bif b13 then (Bz (l4.length + ([(⟨i5, x41⟩ : At)] : List (At)).length ≤ room) (some ((l4 ++ ([(⟨i5, x41⟩ : At)] : List (At)))))) else (some (l4))))))))))) (fun x44 => ((some (.next (x44, (A9 (i5 + (1 : Int))))))))) else (some (.done l4)))
def M2 := (default : At)
def S9 (i33 : Int) := ([i33] : List (Int))
def O3 (a_g : TGraph) := (a_g.Succ.length : Int)
def Q327 (l14 : List (Bool)) := (fun i => eB (l14.getD i false))
def Rt (a_g : TGraph) := (List.replicate ((O3 a_g)).toNat false)
def Q336 (a_g : TGraph) (i5 : Int) := ((Rt a_g).set (i5).toNat true)
def Gd (x2 : List (Bool)) : AV := (AV.list 1 eB false x2 (.own 17))
def Sv (i5 : Int) (x41 : List (Int)) := ([(⟨i5, x41⟩ : At)] : List (At))
def N2 (l19 : List (Bool)) (i18 : Int) := ((l19.getD (i18).toNat false) == false)
def Q338 := (fun n_ => Cr n_ [1, 7, 17, 19, 32, 5003])
def Hi (l4 : List (At)) : AV := (AV.list 2 Bx M2 l4 (.own 5003))
def Gj (x3 : List ((Int × Int))) : AV := (AV.list 2 A7 ((0 : Int), (0 : Int)) x3 (.own 19))
def S1 : AV := (AV.list 2 Bx M2 ([] : List At) .exact)
def Kp (i5 : Int) : List AV := [(.int .i64 i5), (AV.list 1 Ae (0 : Int) ([] : List Int) .exact)]
def Gi (a_g : TGraph) : List AV := [(AV.list 1 eLI64 [] a_g.Succ .none), (AV.list 1 eLI64 [] a_g.Pred .none)]
def Q325 (l19 : List (Bool)) (i18 : Int) (i5 : Int) := ((N2 l19 i18) && (((i18 : Int) != i5) == true))
def Q340 := (⟨[(2, (AV.list 2 Bx M2 ([] : List At) (.own 6002)))], [(6002, .tok 2 38 (([] : List At).length))], []⟩ : St)
def Jn (l19 : List (Bool)) (i18 : Int) (i5 : Int) (x2 : List (Bool)) := ((N2 l19 i18) && ((bif ((i18 : Int) != i5) then (x2.getD (i18).toNat false) else false) == true))
def Q331 (l4 : List (At)) (x2 : List (Bool)) (x3 : List ((Int × Int))) (i5 : Int) (b13 : Bool) (l14 : List (Bool)) (i33 : Int) : List (Nat × AV) := [(1, (.ptr 1 0)), (3, (Hi l4)), (4, (Gd x2)), (5, (Gj x3)), (6, (.int .i64 i5)), (7, (.ptr 7 0)), (8, (.bool b13)), (9, (.vsl 32 l14.length)), (12, (.int .i64 i33))]
def Q328 (a_g : TGraph) (i5 : Int) (x2 : List (Bool)) (x3 : List ((Int × Int))) (l12 : List (Bool)) (l4 : List (At)) : List (Nat × Own) := [(1, .row 26 (Gi a_g)), (7, .row 38 (Kp i5)), (17, .tok 1 4 x2.length), (19, .tok 2 45 x3.length), (32, .arr 1 4 l12.length (fun i => eB (l12.getD i false))), (5003, .tok 2 38 l4.length)]
def Q333 (a_g : TGraph) (i5 : Int) (x2 : List (Bool)) (x3 : List ((Int × Int))) (l19 : List (Bool)) (l4 : List (At)) : List (Nat × Own) := [(1, .row 26 (Gi a_g)), (7, .row 38 (Kp i5)), (17, .tok 1 4 x2.length), (19, .tok 2 45 x3.length), (32, .arr 1 4 l19.length (fun i => eB (l19.getD i false))), (5003, .tok 2 38 l4.length)]
def Q330 (l4 : List (At)) (x2 : List (Bool)) (x3 : List ((Int × Int))) (i5 : Int) (l19 : List (Bool)) (i11 : Int) (i18 : Int) : List (Nat × AV) := [(1, (.ptr 1 0)), (3, (Hi l4)), (4, (Gd x2)), (5, (Gj x3)), (6, (.int .i64 i5)), (7, (.ptr 7 0)), (8, (.bool true)), (9, (.vsl 32 l19.length)), (10, (.int .i64 i11)), (11, (.int .i64 i18))]
def Q335 (l4 : List (At)) (x2 : List (Bool)) (x3 : List ((Int × Int))) (i5 : Int) (a_g : TGraph) := (⟨[(1, (.ptr 1 0)), (3, (Hi l4)), (4, (Gd x2)), (5, (Gj x3)), (6, (.int .i64 i5))], [(1, .row 26 (Gi a_g)), (17, .tok 1 4 x2.length), (19, .tok 2 45 x3.length), (5003, .tok 2 38 l4.length)], []⟩ : St)
def Q321 (l19 : List (Bool)) (i18 : Int) (i5 : Int) (x2 : List (Bool)) (x23 : List (Bool)) (x3 : List ((Int × Int))) (i11 : Int) := (bif (l19.getD (i18).toNat false) then true else (bif (bif ((i18 : Int) != i5) then (x2.getD (i18).toNat false) else false) then (x23.getD ((x3.getD (i11).toNat ((0 : Int), (0 : Int))).1).toNat false) else false))
def Q329 (a_g : TGraph) (i5 : Int) (l34 : List (Int)) (x2 : List (Bool)) (x3 : List ((Int × Int))) (l14 : List (Bool)) (l4 : List (At)) : List (Nat × Own) := [(1, .row 26 (Gi a_g)), (7, .row 38 [(.int .i64 i5), (AV.list 1 Ae (0 : Int) l34 (.own 5701))]), (17, .tok 1 4 x2.length), (19, .tok 2 45 x3.length), (32, .arr 1 4 l14.length (Q327 l14)), (5003, .tok 2 38 l4.length), (5701, .tok 1 3 l34.length)]
def Fg (a_g : TGraph) : Option (List (At)) :=
  ((Dd a_g).bind fun x1 => (bif (!x1) then (some ([] : List At)) else ((Bd a_g (0 : Int) (-1 : Int)).bind fun x2 => ((Cm a_g).bind fun x3 => ((Au (S := (List (At) × Int)) (X := List (At)) (Ct a_g x2 x3) (([] : List At), (0 : Int))).bind (fun x46 => ((some x46))))))))
theorem Nu (a_g : TGraph) (r : List (At)) (h : Fg a_g = some r) : Spec Try.prog 26 [(.agg (Az a_g))] [] (AV.list 2 Bx (default : At) r (.own 20000)) [(20000, .tok 2 38 r.length)] := by
  refine Ao (fn := Try.f26) Try.func26 rfl rfl (by kernel_rfl) (fun Γ hn hΓ => ?_); have hq : RgQ Try.prog Γ 110 [] := ⟨hn, mix, hΓ⟩; unfold Fg at h; refine B0 [] [(2, S1)] ⟨[(1, (.ptr 1 0))], [(1, .row 26 (Gi a_g))], []⟩ [(AVle (.slice 0 0 (fun _ => []) .exact) S1)] hq ⟨Dh, trivial⟩ ?_; refine B0 [] [(3, S1)] ⟨[(1, (.ptr 1 0)), (3, S1)], [(1, .row 26 (Gi a_g))], []⟩ [(AVle (.slice 0 0 (fun _ => []) .exact) S1)] hq ⟨Dh, trivial⟩ ?_; refine Ad ?_; obtain ⟨x1, hx1, h⟩ := bind_some h; refine B0 [⟨[], [], (.bool x1), [], []⟩] [] ⟨[(1, (.ptr 1 0)), (3, S1), (15, (.bool (!x1)))], [(1, .row 26 (Gi a_g))], []⟩ [(Spec Try.prog 43 [(.agg (Az a_g))] [] (.bool x1) [])] hq ⟨(Fy a_g x1 hx1), trivial⟩ ?_; refine Aj (!x1) (by kernel_rfl) (fun hb => ?_) (fun hb => ?_)
  · replace h := Am hb h; clear hb; refine B0 [] [(2, S1)] ⟨[(2, S1)], [], []⟩ [(AVle (.slice 0 0 (fun _ => []) .exact) S1)] hq ⟨Dh, trivial⟩ ?_; refine Af (st' := Q340) (Le.trans (Li (t := 2) (nm := 6002) (sz' := 2) (fun i => Bx (([] : List At).getD i M2)) 38 rfl rfl (.inl ⟨rfl, rfl⟩) (fun h_ => absurd h_ (by decide))) (Fe (st' := Q340) [2] [6002] hq)) ?_; refine Aq ?_; refine Ay ?_; obtain rfl := OI h; exact ⟨.inl rfl, [(6002, 20000)], by kernel_rfl⟩
  · replace h := Ar hb h; clear hb; refine Ah ?_; refine Aa ?_; obtain ⟨x2, hx2, h⟩ := bind_some h; refine B0 [⟨[], [(20000, 17)], (AV.list 1 eB false x2 (.own 20000)), [(20000, .tok 1 4 x2.length)], []⟩] [] ⟨[(1, (.ptr 1 0)), (3, S1), (4, (Gd x2))], [(1, .row 26 (Gi a_g)), (17, .tok 1 4 x2.length)], []⟩ [(Spec Try.prog 17 [(.agg (Az a_g)), (.int .i64 (0 : Int)), (.int .i64 (-1 : Int))] [] (AV.list 1 eB false x2 (.own 20000)) [(20000, .tok 1 4 x2.length)])] hq ⟨(Dr a_g (0 : Int) (-1 : Int) x2 hx2), trivial⟩ ?_; obtain ⟨x3, hx3, h⟩ := bind_some h; refine B0 [⟨[], [(20000, 19)], (AV.list 2 A7 ((0 : Int), (0 : Int)) x3 (.own 20000)), [(20000, .tok 2 45 x3.length)], []⟩] [] ⟨[(1, (.ptr 1 0)), (3, S1), (4, (Gd x2)), (5, (Gj x3))], [(1, .row 26 (Gi a_g)), (17, .tok 1 4 x2.length), (19, .tok 2 45 x3.length)], []⟩ [(Spec Try.prog 25 [(.agg (Az a_g))] [] (AV.list 2 A7 ((0 : Int), (0 : Int)) x3 (.own 20000)) [(20000, .tok 2 45 x3.length)])] hq ⟨(Gg a_g x3 hx3), trivial⟩ ?_; refine Ad ?_; refine As ⟨[(1, (.ptr 1 0)), (3, S1), (4, (Gd x2)), (5, (Gj x3)), (6, (.int .i64 (0 : Int)))], [(1, .row 26 (Gi a_g)), (17, .tok 1 4 x2.length), (19, .tok 2 45 x3.length)], []⟩ hq ?_; refine Ag ?_; refine Af (st' := (fun ((l4, i5) : (List (At) × Int)) => (Q335 l4 x2 x3 i5 a_g)) (([] : List At), (0 : Int))) (Le.trans (Li (t := 3) (nm := 5003) (sz' := 2) (fun i => Bx (([] : List At).getD i M2)) 38 rfl rfl (.inl ⟨rfl, rfl⟩) (fun h_ => absurd h_ (by decide))) (Fe (st' := ⟨[(1, (.ptr 1 0)), (3, (AV.list 2 Bx M2 ([] : List At) (.own 5003))), (4, (Gd x2)), (5, (Gj x3)), (6, (.int .i64 (0 : Int)))], [(1, .row 26 (Gi a_g)), (17, .tok 1 4 x2.length), (19, .tok 2 45 x3.length), (5003, .tok 2 38 (([] : List At).length))], []⟩) [1, 3, 4, 5, 6] [1, 17, 19, 5003] hq)) ?_; obtain ⟨x46, hx46, h⟩ := bind_some h; refine A2 (fun ((l4, i5) : (List (At) × Int)) => (Q335 l4 x2 x3 i5 a_g)) _ (fun (l6 : List (At)) (e : Exit) (st : St) => e = (.exit 0) ∧ Le Γ st (⟨[(3, (AV.list 2 Bx M2 l6 (.own 5003)))], [(5003, .tok 2 38 l6.length)], []⟩ : St)) ?_ hx46 ?_
    · rintro ⟨l4, i5⟩ y h; unfold Ct at h; refine Ad ?_; refine As ⟨[(1, (.ptr 1 0)), (3, (Hi l4)), (4, (Gd x2)), (5, (Gj x3)), (6, (.int .i64 i5)), (24, (.bool (decide ((i5 : Int) < (O3 a_g)))))], [(1, .row 26 (Gi a_g)), (17, .tok 1 4 x2.length), (19, .tok 2 45 x3.length), (5003, .tok 2 38 l4.length)], []⟩ hq ?_; refine Aj (decide ((i5 : Int) < (O3 a_g))) (by kernel_rfl) (fun hb => ?_) (fun hb => ?_)
      · replace h := Am hb h; clear hb; refine Ah ?_; refine Aa ?_; refine Ad ?_; obtain ⟨x44, hx44, h⟩ := bind_some h; refine D8 (fun (l7 : List (At)) (e : Exit) (st : St) => e = .normal ∧ Le Γ st (⟨[(1, (.ptr 1 0)), (3, (AV.list 2 Bx M2 l7 (.own 5003))), (4, (Gd x2)), (5, (Gj x3)), (6, (.int .i64 i5))], [(1, .row 26 (Gi a_g)), (17, .tok 1 4 x2.length), (19, .tok 2 45 x3.length), (5003, .tok 2 38 l7.length)], []⟩ : St)) hx44 ?_ ?_
        · clear h hx44; intro y h; refine Ag ?_; refine B0 [] [(28, (.agg (Kp i5)))] ⟨[(1, (.ptr 1 0)), (3, (Hi l4)), (4, (Gd x2)), (5, (Gj x3)), (6, (.int .i64 i5)), (7, (.ptr 7 0))], [(1, .row 26 (Gi a_g)), (7, .row 38 (Kp i5)), (17, .tok 1 4 x2.length), (19, .tok 2 45 x3.length), (5003, .tok 2 38 l4.length)], []⟩ [(AVle (.agg [(.int .i64 i5), (.slice 0 0 (fun _ => []) .exact)]) (.agg (Kp i5)))] hq ⟨(AVle.agg (.cons (AVle.refl _) (.cons Dh .nil))), trivial⟩ ?_; refine As ⟨[(1, (.ptr 1 0)), (3, (Hi l4)), (4, (Gd x2)), (5, (Gj x3)), (6, (.int .i64 i5)), (7, (.ptr 7 0)), (8, (.bool false))], [(1, .row 26 (Gi a_g)), (7, .row 38 (Kp i5)), (17, .tok 1 4 x2.length), (19, .tok 2 45 x3.length), (5003, .tok 2 38 l4.length)], []⟩ hq ?_; obtain ⟨hc8, h⟩ := Ab h; refine B0 [] [] ⟨[(1, (.ptr 1 0)), (3, (Hi l4)), (4, (Gd x2)), (5, (Gj x3)), (6, (.int .i64 i5)), (7, (.ptr 7 0)), (8, (.bool false)), (9, (.vsl 32 ((O3 a_g)).toNat))], [(1, .row 26 (Gi a_g)), (7, .row 38 (Kp i5)), (17, .tok 1 4 x2.length), (19, .tok 2 45 x3.length), (32, .arr 1 4 (((O3 a_g)).toNat) (fun i_ => AV.eraseAll Q338 ((fun _ => [(.bool false)]) i_))), (5003, .tok 2 38 l4.length)], []⟩ [(0 ≤ (O3 a_g) ∧ (O3 a_g) ≤ (O3 a_g) ∧ (O3 a_g) ≤ (room : Int))] hq ⟨hc8, trivial⟩ ?_; refine Af (Le.trans (Cq (st' := ⟨[(1, (.ptr 1 0)), (3, (Hi l4)), (4, (Gd x2)), (5, (Gj x3)), (6, (.int .i64 i5)), (7, (.ptr 7 0)), (8, (.bool false)), (9, (.vsl 32 ((O3 a_g)).toNat))], [(1, .row 26 (Gi a_g)), (7, .row 38 (Kp i5)), (17, .tok 1 4 x2.length), (19, .tok 2 45 x3.length), (32, .arr 1 4 (((O3 a_g)).toNat) (fun i => eB ((Rt a_g).getD i false))), (5003, .tok 2 38 l4.length)], []⟩) (TmpsLe.refl _) (.same (.same (.same (.same (.arr (fun k hk => Ma (e := eB) (d := false) (.cons (AVle.refl _) .nil) _ k (Ml hk)) (.same .nil))))))) (Bt (congrArg (fun k_ : Nat => (⟨[(1, (.ptr 1 0)), (3, (Hi l4)), (4, (Gd x2)), (5, (Gj x3)), (6, (.int .i64 i5)), (7, (.ptr 7 0)), (8, (.bool false)), (9, (.vsl 32 k_))], [(1, .row 26 (Gi a_g)), (7, .row 38 (Kp i5)), (17, .tok 1 4 x2.length), (19, .tok 2 45 x3.length), (32, .arr 1 4 k_ (fun i => eB ((Rt a_g).getD i false))), (5003, .tok 2 38 l4.length)], []⟩ : St)) (show ((O3 a_g)).toNat = (Rt a_g).length from (List.length_replicate ..).symm)))) ?_; obtain ⟨hc9, h⟩ := Ab h; refine B0 [] [] ⟨[(1, (.ptr 1 0)), (3, (Hi l4)), (4, (Gd x2)), (5, (Gj x3)), (6, (.int .i64 i5)), (7, (.ptr 7 0)), (8, (.bool false)), (9, (.vsl 32 (Rt a_g).length))], [(1, .row 26 (Gi a_g)), (7, .row 38 (Kp i5)), (17, .tok 1 4 x2.length), (19, .tok 2 45 x3.length), (32, .arr 1 4 ((Rt a_g).length) (fun i_ => AV.eraseAll Q338 ((F5 (fun i => eB ((Rt a_g).getD i false)) (i5).toNat 0 [(.bool true)]) i_))), (5003, .tok 2 38 l4.length)], []⟩ [(A3 i5 (Rt a_g).length), ((Rt a_g).length = (Rt a_g).length)] hq ⟨hc9, rfl, trivial⟩ ?_; refine Af (Le.trans (Cq (st' := ⟨[(1, (.ptr 1 0)), (3, (Hi l4)), (4, (Gd x2)), (5, (Gj x3)), (6, (.int .i64 i5)), (7, (.ptr 7 0)), (8, (.bool false)), (9, (.vsl 32 (Rt a_g).length))], [(1, .row 26 (Gi a_g)), (7, .row 38 (Kp i5)), (17, .tok 1 4 x2.length), (19, .tok 2 45 x3.length), (32, .arr 1 4 ((Rt a_g).length) (fun i => eB ((Q336 a_g i5).getD i false))), (5003, .tok 2 38 l4.length)], []⟩) (TmpsLe.refl _) (.same (.same (.same (.same (.arr (Bf (List.length_set ..).symm (fun k_ hk_ => (congrArg (AV.eraseAll Q338) ((Gl (fun _ _ => rfl) (Hc hc9) rfl) k_ hk_)).trans rfl)) (.same .nil))))))) (Bt (congrArg (fun k_ : Nat => (⟨[(1, (.ptr 1 0)), (3, (Hi l4)), (4, (Gd x2)), (5, (Gj x3)), (6, (.int .i64 i5)), (7, (.ptr 7 0)), (8, (.bool false)), (9, (.vsl 32 k_))], [(1, .row 26 (Gi a_g)), (7, .row 38 (Kp i5)), (17, .tok 1 4 x2.length), (19, .tok 2 45 x3.length), (32, .arr 1 4 k_ (fun i => eB ((Q336 a_g i5).getD i false))), (5003, .tok 2 38 l4.length)], []⟩ : St)) (show (Rt a_g).length = (Q336 a_g i5).length from (List.length_set ..).symm)))) ?_; refine Ad ?_; refine As ⟨[(1, (.ptr 1 0)), (3, (Hi l4)), (4, (Gd x2)), (5, (Gj x3)), (6, (.int .i64 i5)), (7, (.ptr 7 0)), (8, (.bool false)), (9, (.vsl 32 (Q336 a_g i5).length)), (10, (.int .i64 (0 : Int)))], [(1, .row 26 (Gi a_g)), (7, .row 38 (Kp i5)), (17, .tok 1 4 x2.length), (19, .tok 2 45 x3.length), (32, .arr 1 4 ((Q336 a_g i5).length) (fun i => eB ((Q336 a_g i5).getD i false))), (5003, .tok 2 38 l4.length)], []⟩ hq ?_; refine Ag ?_; refine Af (st' := (fun ((b10, i11, l12) : (Bool × Int × List (Bool))) => (⟨[(1, (.ptr 1 0)), (3, (Hi l4)), (4, (Gd x2)), (5, (Gj x3)), (6, (.int .i64 i5)), (7, (.ptr 7 0)), (8, (.bool b10)), (9, (.vsl 32 l12.length)), (10, (.int .i64 i11))], (Q328 a_g i5 x2 x3 l12 l4), []⟩ : St)) (false, (0 : Int), (Q336 a_g i5))) (Le.refl _ _) ?_; obtain ⟨x31, hx31, h⟩ := bind_some h; refine A2 (fun ((b10, i11, l12) : (Bool × Int × List (Bool))) => (⟨[(1, (.ptr 1 0)), (3, (Hi l4)), (4, (Gd x2)), (5, (Gj x3)), (6, (.int .i64 i5)), (7, (.ptr 7 0)), (8, (.bool b10)), (9, (.vsl 32 l12.length)), (10, (.int .i64 i11))], (Q328 a_g i5 x2 x3 l12 l4), []⟩ : St)) _ (fun ((b13, l14) : (Bool × List (Bool))) (e : Exit) (st : St) => e = (.exit 2) ∧ Le Γ st (⟨[(1, (.ptr 1 0)), (3, (Hi l4)), (4, (Gd x2)), (5, (Gj x3)), (6, (.int .i64 i5)), (7, (.ptr 7 0)), (8, (.bool b13)), (9, (.vsl 32 l14.length))], [(1, .row 26 (Gi a_g)), (7, .row 38 (Kp i5)), (17, .tok 1 4 x2.length), (19, .tok 2 45 x3.length), (32, .arr 1 4 l14.length (Q327 l14)), (5003, .tok 2 38 l4.length)], []⟩ : St)) ?_ hx31 ?_
          · rintro ⟨b10, i11, l12⟩ y h; unfold Cw at h; refine Ad ?_; refine As ⟨[(1, (.ptr 1 0)), (3, (Hi l4)), (4, (Gd x2)), (5, (Gj x3)), (6, (.int .i64 i5)), (7, (.ptr 7 0)), (8, (.bool b10)), (9, (.vsl 32 l12.length)), (10, (.int .i64 i11)), (39, (.bool (decide ((i11 : Int) < (x3.length : Int)))))], (Q328 a_g i5 x2 x3 l12 l4), []⟩ hq ?_; refine Aj (decide ((i11 : Int) < (x3.length : Int))) (by kernel_rfl) (fun hb => ?_) (fun hb => ?_)
            · replace h := Am hb h; clear hb; refine Ah ?_; refine Aa ?_; refine Ad ?_; obtain ⟨x29, hx29, h⟩ := bind_some h; refine D8 (fun ((b15, l16) : (Bool × List (Bool))) (e : Exit) (st : St) => e = .normal ∧ Le Γ st (⟨[(1, (.ptr 1 0)), (3, (Hi l4)), (4, (Gd x2)), (5, (Gj x3)), (6, (.int .i64 i5)), (7, (.ptr 7 0)), (8, (.bool b15)), (9, (.vsl 32 l16.length)), (10, (.int .i64 i11))], [(1, .row 26 (Gi a_g)), (7, .row 38 (Kp i5)), (17, .tok 1 4 x2.length), (19, .tok 2 45 x3.length), (32, .arr 1 4 l16.length (fun i => eB (l16.getD i false))), (5003, .tok 2 38 l4.length)], []⟩ : St)) hx29 ?_ ?_
              · clear h hx29; intro y h; refine Ag ?_; refine Ad ?_; obtain ⟨hc17, h⟩ := Ab h; refine B0 [] [] ⟨[(1, (.ptr 1 0)), (3, (Hi l4)), (4, (Gd x2)), (5, (Gj x3)), (6, (.int .i64 i5)), (7, (.ptr 7 0)), (8, (.bool b10)), (9, (.vsl 32 l12.length)), (10, (.int .i64 i11)), (48, (.bool (((x3.getD (i11).toNat ((0 : Int), (0 : Int))).2 : Int) != i5)))], (Q328 a_g i5 x2 x3 l12 l4), []⟩ [(A3 i11 x3.length), (A3 (1 : Int) 2)] hq ⟨hc17, (by decide), trivial⟩ ?_; refine Aj (((x3.getD (i11).toNat ((0 : Int), (0 : Int))).2 : Int) != i5) (by kernel_rfl) (fun hb => ?_) (fun hb => ?_)
                · replace h := Am hb h; clear hb; refine A1 ?_; refine Ax ?_; refine Aw ?_; obtain rfl := OI h; exact ⟨rfl, Fe [1, 3, 4, 5, 6, 7, 8, 9, 10] [1, 7, 17, 19, 32, 5003] hq⟩
                · replace h := Ar hb h; clear hb; refine Ah ?_; refine Aa ?_; refine As ⟨[(1, (.ptr 1 0)), (3, (Hi l4)), (4, (Gd x2)), (5, (Gj x3)), (6, (.int .i64 i5)), (7, (.ptr 7 0)), (8, (.bool true)), (9, (.vsl 32 l12.length)), (10, (.int .i64 i11))], (Q328 a_g i5 x2 x3 l12 l4), []⟩ hq ?_; refine As ⟨[(1, (.ptr 1 0)), (3, (Hi l4)), (4, (Gd x2)), (5, (Gj x3)), (6, (.int .i64 i5)), (7, (.ptr 7 0)), (8, (.bool true)), (9, (.vsl 32 l12.length)), (10, (.int .i64 i11)), (11, (.int .i64 (0 : Int)))], (Q328 a_g i5 x2 x3 l12 l4), []⟩ hq ?_; refine Ag ?_; refine Af (st' := (fun ((i18, l19) : (Int × List (Bool))) => (⟨(Q330 l4 x2 x3 i5 l19 i11 i18), (Q333 a_g i5 x2 x3 l19 l4), []⟩ : St)) ((0 : Int), l12)) (Le.refl _ _) ?_; obtain ⟨x27, hx27, h⟩ := bind_some h; refine A2 (fun ((i18, l19) : (Int × List (Bool))) => (⟨(Q330 l4 x2 x3 i5 l19 i11 i18), (Q333 a_g i5 x2 x3 l19 l4), []⟩ : St)) _ (fun (l20 : List (Bool)) (e : Exit) (st : St) => e = (.exit 4) ∧ Le Γ st (⟨[(1, (.ptr 1 0)), (3, (Hi l4)), (4, (Gd x2)), (5, (Gj x3)), (6, (.int .i64 i5)), (7, (.ptr 7 0)), (8, (.bool true)), (9, (.vsl 32 l20.length)), (10, (.int .i64 i11))], [(1, .row 26 (Gi a_g)), (7, .row 38 (Kp i5)), (17, .tok 1 4 x2.length), (19, .tok 2 45 x3.length), (32, .arr 1 4 l20.length (fun i => eB (l20.getD i false))), (5003, .tok 2 38 l4.length)], []⟩ : St)) ?_ hx27 ?_
                  · rintro ⟨i18, l19⟩ y h; unfold Cv at h; refine Ad ?_; refine As ⟨[(1, (.ptr 1 0)), (3, (Hi l4)), (4, (Gd x2)), (5, (Gj x3)), (6, (.int .i64 i5)), (7, (.ptr 7 0)), (8, (.bool true)), (9, (.vsl 32 l19.length)), (10, (.int .i64 i11)), (11, (.int .i64 i18)), (53, (.bool (decide ((i18 : Int) < (O3 a_g)))))], (Q333 a_g i5 x2 x3 l19 l4), []⟩ hq ?_; refine Aj (decide ((i18 : Int) < (O3 a_g))) (by kernel_rfl) (fun hb => ?_) (fun hb => ?_)
                    · replace h := Am hb h; clear hb; refine Ah ?_; refine Aa ?_; refine Ad ?_; refine Ag ?_; obtain ⟨hc21, h⟩ := Ab h; obtain ⟨hc22, h⟩ := Ab h; obtain ⟨x23, hx23, h⟩ := bind_some h; obtain ⟨hc24, h⟩ := Ab h; obtain ⟨hc25, h⟩ := Ab h; obtain ⟨hc26, h⟩ := Ab h; refine rg [⟨[], [], (AV.list 1 eB false x23 .none), [], []⟩] [] ⟨(Q330 l4 x2 x3 i5 l19 i11 i18), [(1, .row 26 (Gi a_g)), (7, .row 38 (Kp i5)), (17, .tok 1 4 x2.length), (19, .tok 2 45 x3.length), (32, .arr 1 4 l19.length (fun i_ => AV.eraseAll Q338 ((F5 (fun i => eB (l19.getD i false)) (i18).toNat 0 [(.bool (Q321 l19 i18 i5 x2 x23 x3 i11))]) i_))), (5003, .tok 2 38 l4.length)], []⟩ [(A3 i18 l19.length), (l19.length = l19.length), ((N2 l19 i18) = true → (N2 l19 i18) = true), ((N2 l19 i18) = true → (N2 l19 i18) = true), ((N2 l19 i18) = true → (N2 l19 i18) = true), ((Q325 l19 i18 i5) = true → (Q325 l19 i18 i5) = true), ((Q325 l19 i18 i5) = true → (Q325 l19 i18 i5) = true), ((Q325 l19 i18 i5) = true → (A3 i18 x2.length)), ((Q325 l19 i18 i5) = true → (Q325 l19 i18 i5) = true), ((N2 l19 i18) = true → (N2 l19 i18) = true), ((N2 l19 i18) = true → (((i18 : Int) != i5) = true → (Q325 l19 i18 i5) = true)), ((N2 l19 i18) = true → (N2 l19 i18) = true), ((Jn l19 i18 i5 x2) = true → (Jn l19 i18 i5 x2) = true), ((Jn l19 i18 i5 x2) = true → (Jn l19 i18 i5 x2) = true), ((Jn l19 i18 i5 x2) = true → (Jn l19 i18 i5 x2) = true), ((Jn l19 i18 i5 x2) = true → (Spec Try.prog 17 [(.agg (Az a_g)), (.int .i64 i18), (.int .i64 i5)] [] (AV.list 1 eB false x23 .none) [])), ((Jn l19 i18 i5 x2) = true → (Jn l19 i18 i5 x2) = true), ((Jn l19 i18 i5 x2) = true → (Jn l19 i18 i5 x2) = true), ((Jn l19 i18 i5 x2) = true → (A3 i11 x3.length)), ((Jn l19 i18 i5 x2) = true → (Jn l19 i18 i5 x2) = true), ((Jn l19 i18 i5 x2) = true → (A3 (0 : Int) 2)), ((Jn l19 i18 i5 x2) = true → (Jn l19 i18 i5 x2) = true), ((Jn l19 i18 i5 x2) = true → (Jn l19 i18 i5 x2) = true), ((Jn l19 i18 i5 x2) = true → (Jn l19 i18 i5 x2) = true), ((Jn l19 i18 i5 x2) = true → (A3 (x3.getD (i11).toNat ((0 : Int), (0 : Int))).1 x23.length)), ((Jn l19 i18 i5 x2) = true → (Jn l19 i18 i5 x2) = true), ((N2 l19 i18) = true → (N2 l19 i18) = true), ((N2 l19 i18) = true → ((bif ((i18 : Int) != i5) then (x2.getD (i18).toNat false) else false) = true → (Jn l19 i18 i5 x2) = true)), ((l19.getD (i18).toNat false) = false → (N2 l19 i18) = true), (A3 i18 l19.length), (l19.length = l19.length)] hq ⟨hc21, rfl, (fun hg => hg), (fun hg => hg), (fun hg => hg), (fun hg => hg), (fun hg => hg), (fun hg => (hc22 hg)), (fun hg => hg), (fun hg => hg), (fun hg => (aT hg)), (fun hg => hg), (fun hg => hg), (fun hg => hg), (fun hg => hg), (fun hg => (Spec.drop (Dr a_g i18 i5 x23 (Am hg hx23)))), (fun hg => hg), (fun hg => hg), (fun hg => (hc24 hg)), (fun hg => hg), (fun hg => (by decide)), (fun hg => hg), (fun hg => hg), (fun hg => hg), (fun hg => (hc25 hg)), (fun hg => hg), (fun hg => hg), (fun hg => (aT hg)), gF, hc26, rfl, trivial⟩ ?_; refine Ai ?_; refine Aa ?_; refine Af (Le.trans (Cq (st' := ⟨(Q330 l4 x2 x3 i5 l19 i11 i18), [(1, .row 26 (Gi a_g)), (7, .row 38 (Kp i5)), (17, .tok 1 4 x2.length), (19, .tok 2 45 x3.length), (32, .arr 1 4 l19.length (fun i => eB ((l19.set (i18).toNat (Q321 l19 i18 i5 x2 x23 x3 i11)).getD i false))), (5003, .tok 2 38 l4.length)], []⟩) (TmpsLe.refl _) (.same (.same (.same (.same (.arr (Bf (List.length_set ..).symm (fun k_ hk_ => (congrArg (AV.eraseAll Q338) ((Gl (fun _ _ => rfl) (Hc hc26) rfl) k_ hk_)).trans rfl)) (.same .nil))))))) (Bt (congrArg (fun k_ : Nat => (⟨[(1, (.ptr 1 0)), (3, (Hi l4)), (4, (Gd x2)), (5, (Gj x3)), (6, (.int .i64 i5)), (7, (.ptr 7 0)), (8, (.bool true)), (9, (.vsl 32 k_)), (10, (.int .i64 i11)), (11, (.int .i64 i18))], [(1, .row 26 (Gi a_g)), (7, .row 38 (Kp i5)), (17, .tok 1 4 x2.length), (19, .tok 2 45 x3.length), (32, .arr 1 4 k_ (fun i => eB ((l19.set (i18).toNat (Q321 l19 i18 i5 x2 x23 x3 i11)).getD i false))), (5003, .tok 2 38 l4.length)], []⟩ : St)) (show l19.length = (l19.set (i18).toNat (Q321 l19 i18 i5 x2 x23 x3 i11)).length from (List.length_set ..).symm)))) ?_; refine It ⟨[(1, (.ptr 1 0)), (3, (Hi l4)), (4, (Gd x2)), (5, (Gj x3)), (6, (.int .i64 i5)), (7, (.ptr 7 0)), (8, (.bool true)), (9, (.vsl 32 (l19.set (i18).toNat (Q321 l19 i18 i5 x2 x23 x3 i11)).length)), (10, (.int .i64 i11)), (11, (.int .i64 (A9 (i18 + (1 : Int)))))], [(1, .row 26 (Gi a_g)), (7, .row 38 (Kp i5)), (17, .tok 1 4 x2.length), (19, .tok 2 45 x3.length), (32, .arr 1 4 ((l19.set (i18).toNat (Q321 l19 i18 i5 x2 x23 x3 i11)).length) (fun i => eB ((l19.set (i18).toNat (Q321 l19 i18 i5 x2 x23 x3 i11)).getD i false))), (5003, .tok 2 38 l4.length)], []⟩ hq ?_; obtain rfl := OI h; exact ⟨rfl, Le.refl _ _⟩
                    · replace h := Ar hb h; clear hb; refine A1 ?_; refine Ax ?_; obtain rfl := OI h; exact ⟨(by intro hh; cases hh), rfl, Fe [1, 3, 4, 5, 6, 7, 8, 9, 10] [1, 7, 17, 19, 32, 5003] hq⟩
                  · clear hx27; rintro e st' ⟨rfl, hl28⟩; refine Aw ?_; refine Ai ?_; obtain rfl := OI h; exact ⟨rfl, Le.trans hl28 (Le.refl _ _)⟩
              · clear hx29; rcases x29 with ⟨b15, l16⟩; rintro e st' ⟨rfl, hl30⟩; refine Aa ?_; refine Af hl30 ?_; refine It ⟨[(1, (.ptr 1 0)), (3, (Hi l4)), (4, (Gd x2)), (5, (Gj x3)), (6, (.int .i64 i5)), (7, (.ptr 7 0)), (8, (.bool b15)), (9, (.vsl 32 l16.length)), (10, (.int .i64 (A9 (i11 + (1 : Int)))))], [(1, .row 26 (Gi a_g)), (7, .row 38 (Kp i5)), (17, .tok 1 4 x2.length), (19, .tok 2 45 x3.length), (32, .arr 1 4 l16.length (fun i => eB (l16.getD i false))), (5003, .tok 2 38 l4.length)], []⟩ hq ?_; obtain rfl := OI h; exact ⟨rfl, Le.refl _ _⟩
            · replace h := Ar hb h; clear hb; refine A1 ?_; refine Ax ?_; obtain rfl := OI h; exact ⟨(by intro hh; cases hh), rfl, Fe [1, 3, 4, 5, 6, 7, 8, 9] [1, 7, 17, 19, 32, 5003] hq⟩
          · clear hx31; rcases x31 with ⟨b13, l14⟩; rintro e st' ⟨rfl, hl32⟩; refine Aw ?_; refine Aa ?_; refine Af hl32 ?_; refine Ad ?_; refine As ⟨[(1, (.ptr 1 0)), (3, (Hi l4)), (4, (Gd x2)), (5, (Gj x3)), (6, (.int .i64 i5)), (7, (.ptr 7 0)), (8, (.bool b13)), (9, (.vsl 32 l14.length)), (12, (.int .i64 (0 : Int)))], [(1, .row 26 (Gi a_g)), (7, .row 38 (Kp i5)), (17, .tok 1 4 x2.length), (19, .tok 2 45 x3.length), (32, .arr 1 4 l14.length (Q327 l14)), (5003, .tok 2 38 l4.length)], []⟩ hq ?_; refine Ag ?_; refine Af (st' := (fun ((i33, l34) : (Int × List (Int))) => (⟨(Q331 l4 x2 x3 i5 b13 l14 i33), (Q329 a_g i5 l34 x2 x3 l14 l4), []⟩ : St)) ((0 : Int), ([] : List Int))) (Le.trans (le_tag_cell (r := 7) (j := 1) (nm := 5701) (sz' := 1) (fun i => Ae (([] : List Int).getD i (0 : Int))) 3 rfl rfl (nl rfl) rfl (.inl ⟨rfl, rfl⟩) (fun h_ => absurd h_ (by decide))) (Fe (st' := ⟨[(1, (.ptr 1 0)), (3, (Hi l4)), (4, (Gd x2)), (5, (Gj x3)), (6, (.int .i64 i5)), (7, (.ptr 7 0)), (8, (.bool b13)), (9, (.vsl 32 l14.length)), (12, (.int .i64 (0 : Int)))], [(1, .row 26 (Gi a_g)), (7, .row 38 [(.int .i64 i5), (AV.list 1 Ae (0 : Int) ([] : List Int) (.own 5701))]), (17, .tok 1 4 x2.length), (19, .tok 2 45 x3.length), (32, .arr 1 4 l14.length (Q327 l14)), (5003, .tok 2 38 l4.length), (5701, .tok 1 3 (([] : List Int).length))], []⟩) [1, 3, 4, 5, 6, 7, 8, 9, 12] [1, 7, 17, 19, 32, 5003, 5701] hq)) ?_; obtain ⟨x41, hx41, h⟩ := bind_some h; refine A2 (fun ((i33, l34) : (Int × List (Int))) => (⟨(Q331 l4 x2 x3 i5 b13 l14 i33), (Q329 a_g i5 l34 x2 x3 l14 l4), []⟩ : St)) _ (fun (l35 : List (Int)) (e : Exit) (st : St) => e = (.exit 6) ∧ Le Γ st (⟨[(1, (.ptr 1 0)), (3, (Hi l4)), (4, (Gd x2)), (5, (Gj x3)), (6, (.int .i64 i5)), (7, (.ptr 7 0)), (8, (.bool b13))], [(1, .row 26 (Gi a_g)), (7, .row 38 [(.int .i64 i5), (AV.list 1 Ae (0 : Int) l35 (.own 5701))]), (17, .tok 1 4 x2.length), (19, .tok 2 45 x3.length), (5003, .tok 2 38 l4.length), (5701, .tok 1 3 l35.length)], []⟩ : St)) ?_ hx41 ?_
            · rintro ⟨i33, l34⟩ y h; unfold Cx at h; refine Ad ?_; refine As ⟨[(1, (.ptr 1 0)), (3, (Hi l4)), (4, (Gd x2)), (5, (Gj x3)), (6, (.int .i64 i5)), (7, (.ptr 7 0)), (8, (.bool b13)), (9, (.vsl 32 l14.length)), (12, (.int .i64 i33)), (91, (.bool (decide ((i33 : Int) < (O3 a_g)))))], (Q329 a_g i5 l34 x2 x3 l14 l4), []⟩ hq ?_; refine Aj (decide ((i33 : Int) < (O3 a_g))) (by kernel_rfl) (fun hb => ?_) (fun hb => ?_)
              · replace h := Am hb h; clear hb; refine Ah ?_; refine Aa ?_; refine Ad ?_; obtain ⟨x39, hx39, h⟩ := bind_some h; refine D8 (fun (l36 : List (Int)) (e : Exit) (st : St) => e = .normal ∧ Le Γ st (⟨(Q331 l4 x2 x3 i5 b13 l14 i33), [(1, .row 26 (Gi a_g)), (7, .row 38 [(.int .i64 i5), (AV.list 1 Ae (0 : Int) l36 (.own 5701))]), (17, .tok 1 4 x2.length), (19, .tok 2 45 x3.length), (32, .arr 1 4 l14.length (Q327 l14)), (5003, .tok 2 38 l4.length), (5701, .tok 1 3 l36.length)], []⟩ : St)) hx39 ?_ ?_
                · clear h hx39; intro y h; refine Ag ?_; obtain ⟨hc37, h⟩ := Ab h; refine B0 [] [] ⟨[(1, (.ptr 1 0)), (3, (Hi l4)), (4, (Gd x2)), (5, (Gj x3)), (6, (.int .i64 i5)), (7, (.ptr 7 0)), (8, (.bool b13)), (9, (.vsl 32 l14.length)), (12, (.int .i64 i33)), (97, (.bool (l14.getD (i33).toNat false)))], (Q329 a_g i5 l34 x2 x3 l14 l4), []⟩ [(A3 i33 l14.length), (l14.length = l14.length)] hq ⟨hc37, rfl, trivial⟩ ?_; refine Aj (l14.getD (i33).toNat false) (by kernel_rfl) (fun hb => ?_) (fun hb => ?_)
                  · replace h := Am hb h; clear hb; obtain ⟨hc38, h⟩ := Ab h; refine rg [] [(101, (AV.list 1 Ae (0 : Int) (S9 i33) .exact)), (102, (AV.list 1 Ae (0 : Int) (l34 ++ (S9 i33)) (.own 5701)))] ⟨(Q331 l4 x2 x3 i5 b13 l14 i33), [(1, .row 26 (Gi a_g)), (7, .row 38 [(.int .i64 i5), (AV.list 1 Ae (0 : Int) (l34 ++ (S9 i33)) (.own 5701))]), (17, .tok 1 4 x2.length), (19, .tok 2 45 x3.length), (32, .arr 1 4 l14.length (Q327 l14)), (5003, .tok 2 38 l4.length), (5701, .tok 1 3 ((l34 ++ (S9 i33)).length))], []⟩ [(AVle (.slice 1 1 (fun i => ([[(.int .i64 i33)]] : List (List AV)).getD i []) .exact) (AV.list 1 Ae (0 : Int) (S9 i33) .exact)), (l34.length = l34.length), (l34.length + (S9 i33).length ≤ room), (AVle (.slice 1 (l34.length + (S9 i33).length) (Fq l34.length (fun i => Ae (l34.getD i (0 : Int))) (fun i => Ae ((S9 i33).getD i (0 : Int)))) (.own 5701)) (AV.list 1 Ae (0 : Int) (l34 ++ (S9 i33)) (.own 5701))), (l34.length + (S9 i33).length = (l34 ++ (S9 i33)).length)] hq ⟨(Fs rfl (fun i hi => Fb (e := Ae) (d := (0 : Int)) (S9 i33) i hi)), rfl, hc38, Js, (Eg _ _), trivial⟩ ?_; refine Ai ?_; obtain rfl := OI h; exact ⟨rfl, Le.refl _ _⟩
                  · replace h := Ar hb h; clear hb; refine Ah ?_; refine Ai ?_; obtain rfl := OI h; exact ⟨rfl, Fe [1, 3, 4, 5, 6, 7, 8, 9, 12] [1, 7, 17, 19, 32, 5003, 5701] hq⟩
                · clear hx39; rintro e st' ⟨rfl, hl40⟩; refine Aa ?_; refine Af hl40 ?_; refine It ⟨[(1, (.ptr 1 0)), (3, (Hi l4)), (4, (Gd x2)), (5, (Gj x3)), (6, (.int .i64 i5)), (7, (.ptr 7 0)), (8, (.bool b13)), (9, (.vsl 32 l14.length)), (12, (.int .i64 (A9 (i33 + (1 : Int)))))], [(1, .row 26 (Gi a_g)), (7, .row 38 [(.int .i64 i5), (AV.list 1 Ae (0 : Int) x39 (.own 5701))]), (17, .tok 1 4 x2.length), (19, .tok 2 45 x3.length), (32, .arr 1 4 l14.length (Q327 l14)), (5003, .tok 2 38 l4.length), (5701, .tok 1 3 x39.length)], []⟩ hq ?_; obtain rfl := OI h; exact ⟨rfl, Le.refl _ _⟩
              · replace h := Ar hb h; clear hb; refine A1 ?_; refine Ax ?_; obtain rfl := OI h; exact ⟨(by intro hh; cases hh), rfl, Fe [1, 3, 4, 5, 6, 7, 8] [1, 7, 17, 19, 5003, 5701] hq⟩
            · clear hx41; rintro e st' ⟨rfl, hl42⟩; refine Aw ?_; refine Aa ?_; refine Af hl42 ?_; refine As ⟨[(1, (.ptr 1 0)), (3, (Hi l4)), (4, (Gd x2)), (5, (Gj x3)), (6, (.int .i64 i5)), (7, (.ptr 7 0)), (104, (.bool b13))], [(1, .row 26 (Gi a_g)), (7, .row 38 [(.int .i64 i5), (AV.list 1 Ae (0 : Int) x41 (.own 5701))]), (17, .tok 1 4 x2.length), (19, .tok 2 45 x3.length), (5003, .tok 2 38 l4.length), (5701, .tok 1 3 x41.length)], []⟩ hq ?_; refine Aj b13 (by kernel_rfl) (fun hb => ?_) (fun hb => ?_)
              · replace h := Am hb h; clear hb; obtain ⟨hc43, h⟩ := Ab h; refine rg [] [(107, (AV.list 2 Bx M2 (Sv i5 x41) .exact)), (108, (AV.list 2 Bx M2 (l4 ++ (Sv i5 x41)) (.own 5003)))] ⟨[(1, (.ptr 1 0)), (3, (AV.list 2 Bx M2 (l4 ++ (Sv i5 x41)) (.own 5003))), (4, (Gd x2)), (5, (Gj x3)), (6, (.int .i64 i5))], [(1, .row 26 (Gi a_g)), (17, .tok 1 4 x2.length), (19, .tok 2 45 x3.length), (5003, .tok 2 38 ((l4 ++ (Sv i5 x41)).length))], []⟩ [(AVle (.slice 2 1 (fun i => ([[(.int .i64 i5), (AV.list 1 Ae (0 : Int) x41 .none)]] : List (List AV)).getD i []) .exact) (AV.list 2 Bx M2 (Sv i5 x41) .exact)), (l4.length = l4.length), (l4.length + (Sv i5 x41).length ≤ room), (AVle (.slice 2 (l4.length + (Sv i5 x41).length) (Fq l4.length (fun i => Bx (l4.getD i M2)) (fun i => Bx ((Sv i5 x41).getD i M2))) (.own 5003)) (AV.list 2 Bx M2 (l4 ++ (Sv i5 x41)) (.own 5003))), (l4.length + (Sv i5 x41).length = (l4 ++ (Sv i5 x41)).length)] hq ⟨(Fs rfl (fun i hi => Fb (e := Bx) (d := M2) (Sv i5 x41) i hi)), rfl, hc43, Js, (Eg _ _), trivial⟩ ?_; refine Ai ?_; obtain rfl := OI h; exact ⟨rfl, Le.refl _ _⟩
              · replace h := Ar hb h; clear hb; refine Ah ?_; refine Ai ?_; obtain rfl := OI h; exact ⟨rfl, Fe [1, 3, 4, 5, 6] [1, 17, 19, 5003] hq⟩
        · clear hx44; rintro e st' ⟨rfl, hl45⟩; refine Aa ?_; refine Af hl45 ?_; refine It ⟨[(1, (.ptr 1 0)), (3, (AV.list 2 Bx M2 x44 (.own 5003))), (4, (Gd x2)), (5, (Gj x3)), (6, (.int .i64 (A9 (i5 + (1 : Int)))))], [(1, .row 26 (Gi a_g)), (17, .tok 1 4 x2.length), (19, .tok 2 45 x3.length), (5003, .tok 2 38 x44.length)], []⟩ hq ?_; obtain rfl := OI h; exact ⟨rfl, Le.refl _ _⟩
      · replace h := Ar hb h; clear hb; refine A1 ?_; refine Ax ?_; obtain rfl := OI h; exact ⟨(by intro hh; cases hh), rfl, Fe [3] [5003] hq⟩
    · clear hx46; rintro e st' ⟨rfl, hl47⟩; refine Aw ?_; refine Aa ?_; refine Af hl47 ?_; refine As ⟨[(2, (AV.list 2 Bx M2 x46 (.own 5003)))], [(5003, .tok 2 38 x46.length)], []⟩ hq ?_; refine Aq ?_; obtain rfl := OI h; exact ⟨.inl rfl, [(5003, 20000)], by kernel_rfl⟩
def Cc (a_a : List (At)) (a_b : List (At)) : Int → Option (LR Int (Unit ⊕ Bool)) :=
  fun (i1 : Int) => (bif (decide ((i1 : Int) < (a_a.length : Int))) then (Bz (A3 i1 a_a.length) (Bz (A3 i1 a_b.length) (Bz (((((a_a.getD (i1).toNat (default : At)).Head : Int) != (a_b.getD (i1).toNat (default : At)).Head) == false) = true → (A3 i1 a_a.length)) (Bz (((((a_a.getD (i1).toNat (default : At)).Head : Int) != (a_b.getD (i1).toNat (default : At)).Head) == false) = true → (A3 i1 a_b.length)) ((bif ((((a_a.getD (i1).toNat (default : At)).Head : Int) != (a_b.getD (i1).toNat (default : At)).Head) == false) then Bo ((a_a.getD (i1).toNat (default : At)).Body) ((a_b.getD (i1).toNat (default : At)).Body) else some false).bind fun x6 => (bif (bif (((a_a.getD (i1).toNat (default : At)).Head : Int) != (a_b.getD (i1).toNat (default : At)).Head) then true else (!x6)) then (some (.done (.inr false))) else (some (.next (A9 (i1 + (1 : Int))))))))))) else (some (.done (.inl ()))))
def Q341 (a_a : List (At)) (i1 : Int) (a_b : List (At)) := (((a_a.getD (i1).toNat (default : At)).Head : Int) != (a_b.getD (i1).toNat (default : At)).Head)
def Jd (a_a : List (At)) (i1 : Int) (a_b : List (At)) := ((Q341 a_a i1 a_b) == false)
def Zm (a_a : List (At)) : AV := (AV.list 2 Bx (default : At) a_a .none)
def Q343 (a_b : List (At)) : AV := (AV.list 2 Bx (default : At) a_b .none)
def Ew (a_a : List (At)) (a_b : List (At)) : Option Bool :=
  (bif (((a_a.length : Int) : Int) != (a_b.length : Int)) then (some false) else ((Au (S := Int) (X := (Unit ⊕ Bool)) (Cc a_a a_b) (0 : Int)).bind (fun x7 => (match x7 with | (.inl _) => (some true) | (.inr r9) => (some r9)))))
theorem Mn (a_a : List (At)) (a_b : List (At)) (r : Bool) (h : Ew a_a a_b = some r) : Spec Try.prog 27 [(AV.list 2 Bx (default : At) a_a .none), (AV.list 2 Bx (default : At) a_b .none)] [] (.bool r) [] := by
  refine Ao (fn := Try.f27) Try.func27 rfl rfl (by kernel_rfl) (fun Γ hn hΓ => ?_); have hq : RgQ Try.prog Γ 42 [] := ⟨hn, mix, hΓ⟩; unfold Ew at h; refine As ⟨[(0, (Zm a_a)), (1, (Q343 a_b))], [], []⟩ hq ?_; refine Ad ?_; refine As ⟨[(0, (Zm a_a)), (1, (Q343 a_b)), (10, (.bool (((a_a.length : Int) : Int) != (a_b.length : Int))))], [], []⟩ hq ?_; refine Aj (((a_a.length : Int) : Int) != (a_b.length : Int)) (by kernel_rfl) (fun hb => ?_) (fun hb => ?_)
  · replace h := Am hb h; clear hb; refine As ⟨[(4, (.bool false))], [], []⟩ hq ?_; refine Aq ?_; refine Ay ?_; obtain rfl := OI h; exact ⟨.inl rfl, [], by kernel_rfl⟩
  · replace h := Ar hb h; clear hb; refine Ah ?_; refine Aa ?_; refine Ad ?_; refine As ⟨[(0, (Zm a_a)), (1, (Q343 a_b)), (5, (.int .i64 (0 : Int)))], [], []⟩ hq ?_; refine Ag ?_; refine Af (st' := (fun (i1 : Int) => (⟨[(0, (Zm a_a)), (1, (Q343 a_b)), (5, (.int .i64 i1))], [], []⟩ : St)) (0 : Int)) (Le.refl _ _) ?_; obtain ⟨x7, hx7, h⟩ := bind_some h; refine A2 (fun (i1 : Int) => (⟨[(0, (Zm a_a)), (1, (Q343 a_b)), (5, (.int .i64 i1))], [], []⟩ : St)) _ (fun (x_ : (Unit ⊕ Bool)) (e : Exit) (st : St) => match x_ with | (.inl _) => e = (.exit 0) ∧ Le Γ st (⟨[], [], []⟩ : St) | (.inr r_) => e = .ret ∧ Jr Try.prog Try.f27.results.toList [] (.bool r_) [] e st) ?_ hx7 ?_
    · intro i1 y h; unfold Cc at h; refine Ad ?_; refine As ⟨[(0, (Zm a_a)), (1, (Q343 a_b)), (5, (.int .i64 i1)), (14, (.bool (decide ((i1 : Int) < (a_a.length : Int)))))], [], []⟩ hq ?_; refine Aj (decide ((i1 : Int) < (a_a.length : Int))) (by kernel_rfl) (fun hb => ?_) (fun hb => ?_)
      · replace h := Am hb h; clear hb; refine Ah ?_; refine Aa ?_; refine Ad ?_; refine Ag ?_; obtain ⟨hc2, h⟩ := Ab h; obtain ⟨hc3, h⟩ := Ab h; obtain ⟨hc4, h⟩ := Ab h; obtain ⟨hc5, h⟩ := Ab h; obtain ⟨x6, hx6, h⟩ := bind_some h; refine B0 [⟨[], [], (.bool x6), [], []⟩] [] ⟨[(0, (Zm a_a)), (1, (Q343 a_b)), (5, (.int .i64 i1)), (41, (.bool (bif (Q341 a_a i1 a_b) then true else (!x6))))], [], []⟩ [(A3 i1 a_a.length), (A3 i1 a_b.length), ((Jd a_a i1 a_b) = true → (Jd a_a i1 a_b) = true), ((Jd a_a i1 a_b) = true → (Jd a_a i1 a_b) = true), ((Jd a_a i1 a_b) = true → (A3 i1 a_a.length)), ((Jd a_a i1 a_b) = true → (Jd a_a i1 a_b) = true), ((Jd a_a i1 a_b) = true → (Jd a_a i1 a_b) = true), ((Jd a_a i1 a_b) = true → (Jd a_a i1 a_b) = true), ((Jd a_a i1 a_b) = true → (Jd a_a i1 a_b) = true), ((Jd a_a i1 a_b) = true → (A3 i1 a_b.length)), ((Jd a_a i1 a_b) = true → (Jd a_a i1 a_b) = true), ((Jd a_a i1 a_b) = true → (Jd a_a i1 a_b) = true), ((Jd a_a i1 a_b) = true → (Jd a_a i1 a_b) = true), ((Jd a_a i1 a_b) = true → (Jd a_a i1 a_b) = true), ((Jd a_a i1 a_b) = true → (Spec Try.prog 21 [(AV.list 1 Ae (0 : Int) (a_a.getD (i1).toNat (default : At)).Body .none), (AV.list 1 Ae (0 : Int) (a_b.getD (i1).toNat (default : At)).Body .none)] [] (.bool x6) [])), ((Jd a_a i1 a_b) = true → (Jd a_a i1 a_b) = true), ((Q341 a_a i1 a_b) = false → (Jd a_a i1 a_b) = true)] hq ⟨hc2, hc3, (fun hg => hg), (fun hg => hg), (fun hg => (hc4 hg)), (fun hg => hg), (fun hg => hg), (fun hg => hg), (fun hg => hg), (fun hg => (hc5 hg)), (fun hg => hg), (fun hg => hg), (fun hg => hg), (fun hg => hg), (fun hg => (Fn ((a_a.getD (i1).toNat (default : At)).Body) ((a_b.getD (i1).toNat (default : At)).Body) x6 (Am hg hx6))), (fun hg => hg), gF, trivial⟩ ?_; refine Aj (bif (Q341 a_a i1 a_b) then true else (!x6)) (by kernel_rfl) (fun hb => ?_) (fun hb => ?_)
        · replace h := Am hb h; clear hb; refine As ⟨[(4, (.bool false))], [], []⟩ hq ?_; refine Aq ?_; refine A6 ?_; refine Ay ?_; obtain rfl := OI h; exact ⟨(by intro hh; cases hh), rfl, ⟨.inl rfl, [], by kernel_rfl⟩⟩
        · replace h := Ar hb h; clear hb; refine Ah ?_; refine Ai ?_; refine Aa ?_; refine It ⟨[(0, (Zm a_a)), (1, (Q343 a_b)), (5, (.int .i64 (A9 (i1 + (1 : Int)))))], [], []⟩ hq ?_; obtain rfl := OI h; exact ⟨rfl, Le.refl _ _⟩
      · replace h := Ar hb h; clear hb; refine A1 ?_; refine Ax ?_; obtain rfl := OI h; exact ⟨(by intro hh; cases hh), rfl, Fe [] [] hq⟩
    · clear hx7; rcases x7 with _ | r9
      · rintro e st' ⟨rfl, hl8⟩; refine Aw ?_; refine Aa ?_; refine Af hl8 ?_; refine As ⟨[(4, (.bool true))], [], []⟩ hq ?_; refine Aq ?_; obtain rfl := OI h; exact ⟨.inl rfl, [], by kernel_rfl⟩
      · rintro e st' ⟨rfl, hk⟩; refine A6 ?_; refine Ay ?_; obtain rfl := OI h; exact hk
def Ch (a_g : TGraph) (a_p1 : List ((Int × Int))) (i2 : Int) (i5 : Int) : (Bool × Int) → Option (LR (Bool × Int) Bool) :=
  fun ((b10, i11) : (Bool × Int)) => (bif (decide ((i11 : Int) < (a_p1.length : Int))) then (Bz ((b10 == true) = true → (A3 i11 a_p1.length)) (Bz ((b10 == true) = true → (A3 i2 a_g.Succ.length)) (Bz ((b10 == true) = true → (A3 i5 (a_g.Succ.getD (i2).toNat []).length)) (some (.next ((bif b10 then (!((((a_p1.getD (i11).toNat ((0 : Int), (0 : Int))).1 : Int) == i2) && ((((a_p1.getD (i11).toNat ((0 : Int), (0 : Int))).2 : Int) == ((a_g.Succ.getD (i2).toNat []).getD (i5).toNat (0 : Int))) && true))) else false), (A9 (i11 + (1 : Int))))))))) else (some (.done b10)))
def Bm (a_g : TGraph) (a_p1 : List ((Int × Int))) (i2 : Int) : (Int × List (List (Int))) → Option (LR (Int × List (List (Int))) (List (List (Int)))) :=
  fun ((i5, l6) : (Int × List (List (Int)))) => (Bz (A3 i2 a_g.Succ.length) (bif (decide ((i5 : Int) < ((a_g.Succ.getD (i2).toNat []).length : Int))) then (Option.bind (α := List (List (Int))) ((Au (S := (Bool × Int)) (X := Bool) (Ch a_g a_p1 i2 i5) (true, (0 : Int))).bind (fun x16 => ((bif x16 then (Bz (A3 i2 l6.length) (Bz (A3 i2 l6.length) (Bz (A3 i2 a_g.Succ.length) (Bz (A3 i5 (a_g.Succ.getD (i2).toNat []).length) (Bz ((l6.getD (i2).toNat []).length + ([((a_g.Succ.getD (i2).toNat []).getD (i5).toNat (0 : Int))] : List (Int)).length ≤ room) (Bz (A3 i2 l6.length) (some ((l6.set (i2).toNat ((l6.getD (i2).toNat []) ++ ([((a_g.Succ.getD (i2).toNat []).getD (i5).toNat (0 : Int))] : List (Int)))))))))))) else (some (l6)))))) (fun x24 => ((some (.next ((A9 (i5 + (1 : Int))), x24)))))) else (some (.done l6))))
def Ce (a_g : TGraph) (a_p1 : List ((Int × Int))) : (Int × List (List (Int))) → Option (LR (Int × List (List (Int))) (List (List (Int)))) :=
  fun ((i2, l3) : (Int × List (List (Int)))) => (bif (decide ((i2 : Int) < (l3.length : Int))) then ((Au (S := (Int × List (List (Int)))) (X := List (List (Int))) (Bm a_g a_p1 i2) ((0 : Int), l3)).bind (fun x26 => ((some (.next ((A9 (i2 + (1 : Int))), x26)))))) else (some (.done l3)))
def Be (l4 : List (List (Int))) (x30 : (TGraph × Int)) (x31 : List (Bool)) (i32 : Int) : Int → Option (LR Int (Unit ⊕ Bool)) :=
  fun (i33 : Int) => (Bz (A3 i32 x31.length) (Bz (((x31.getD (i32).toNat false) == true) = true → (A3 i32 l4.length)) (bif (bif (x31.getD (i32).toNat false) then (decide ((i33 : Int) < ((l4.getD (i32).toNat []).length : Int))) else false) then (Bz (A3 i32 l4.length) (Bz (A3 i33 (l4.getD (i32).toNat []).length) ((Bd x30.1 ((l4.getD (i32).toNat []).getD (i33).toNat (0 : Int)) (-1 : Int)).bind fun x38 => (Bz (A3 i32 x38.length) (bif (x38.getD (i32).toNat false) then (some (.done (.inr true))) else (some (.next (A9 (i33 + (1 : Int)))))))))) else (some (.done (.inl ()))))))
def Bn (l4 : List (List (Int))) (x30 : (TGraph × Int)) (x31 : List (Bool)) : Int → Option (LR Int (Unit ⊕ Bool)) :=
  fun (i32 : Int) => (bif (decide ((i32 : Int) < (l4.length : Int))) then ((Au (S := Int) (X := (Unit ⊕ Bool)) (Be l4 x30 x31 i32) (0 : Int)).bind (fun x40 => (match x40 with | (.inl _) => (some (.next (A9 (i32 + (1 : Int))))) | (.inr r42) => (some (.done (.inr r42)))))) else (some (.done (.inl ()))))
def Su (l6 : List (List (Int))) : AV := (.vsl 18 l6.length)
def Up (l6 : List (List (Int))) (i2 : Int) := (l6.getD (i2).toNat [])
def Sz (a_g : TGraph) := (a_g.Succ.length : Int)
def Rp (x28 : List (List (Int))) : AV := (AV.list 1 eLI64 [] x28 (.own 18))
def Vj (x31 : List (Bool)) : AV := (AV.list 1 eB false x31 (.own 83))
def Zg (a_g : TGraph) (i2 : Int) (i5 : Int) := ([((a_g.Succ.getD (i2).toNat []).getD (i5).toNat (0 : Int))] : List (Int))
def Vn (l6 : List (List (Int))) (i2 : Int) (a_g : TGraph) (i5 : Int) := ((Up l6 i2) ++ (Zg a_g i2 i5))
def Qn (x31 : List (Bool)) (i32 : Int) := ((x31.getD (i32).toNat false) == true)
def Q351 (l6 : List (List (Int))) := (B5 1 Ae (0 : Int) l6 (Tag.fam 70018))
def Ix (a_p1 : List ((Int × Int))) : AV := (AV.list 2 A7 ((0 : Int), (0 : Int)) a_p1 .none)
def O8 (a_g : TGraph) : List AV := [(AV.list 1 eLI64 [] a_g.Succ .none), (AV.list 1 eLI64 [] a_g.Pred .none)]
def Sq (a_g : TGraph) (l6 : List (List (Int))) : List (Nat × Own) := [(2, .row 26 (O8 a_g)), (18, .arr 1 36 l6.length (Q351 l6))]
def S5 (a_g : TGraph) := (List.replicate ((Sz a_g)).toNat ([] : List (Int)))
def Q360 (a_p1 : List ((Int × Int))) (l6 : List (List (Int))) (i2 : Int) (i5 : Int) : List (Nat × AV) := [(1, (Ix a_p1)), (2, (.ptr 2 0)), (5, (Su l6)), (6, (.int .i64 i2)), (7, (.int .i64 i5))]
def Q358 (a_g : TGraph) (l3 : List (List (Int))) : List (Nat × Own) := [(2, .row 26 (O8 a_g)), (18, .arr 1 36 l3.length (B5 1 Ae (0 : Int) l3 (Tag.fam 70018)))]
def Uq (x30 : (TGraph × Int)) (x28 : List (List (Int))) (x31 : List (Bool)) : List (Nat × Own) := [(10, .row 26 [(AV.list 1 eLI64 [] x30.1.Succ .none), (AV.list 1 eLI64 [] x30.1.Pred .none)]), (18, .tok 1 36 x28.length), (83, .tok 1 4 x31.length)]
def Q361 (x28 : List (List (Int))) (x31 : List (Bool)) (i32 : Int) (x30 : (TGraph × Int)) := (⟨[(5, (Rp x28)), (10, (.ptr 10 0)), (12, (Vj x31)), (13, (.int .i64 i32))], (Uq x30 x28 x31), []⟩ : St)
def Q355 (b10 : Bool) (a_p1 : List ((Int × Int))) (i11 : Int) (i2 : Int) (a_g : TGraph) (i5 : Int) : AV := (.bool (bif b10 then (!((((a_p1.getD (i11).toNat ((0 : Int), (0 : Int))).1 : Int) == i2) && ((((a_p1.getD (i11).toNat ((0 : Int), (0 : Int))).2 : Int) == ((a_g.Succ.getD (i2).toNat []).getD (i5).toNat (0 : Int))) && true))) else false))
def D1 (a_g : TGraph) (a_p1 : List ((Int × Int))) : Option Bool :=
  (Bz (0 ≤ (a_g.Succ.length : Int) ∧ (a_g.Succ.length : Int) ≤ (a_g.Succ.length : Int) ∧ (a_g.Succ.length : Int) ≤ (room : Int)) ((Au (S := (Int × List (List (Int)))) (X := List (List (Int))) (Ce a_g a_p1) ((0 : Int), (List.replicate ((a_g.Succ.length : Int)).toNat ([] : List (Int))))).bind (fun x28 => (((D9 x28).bind fun x30 => ((Bd x30.1 (0 : Int) (-1 : Int)).bind fun x31 => ((Au (S := Int) (X := (Unit ⊕ Bool)) (Bn x28 x30 x31) (0 : Int)).bind (fun x43 => (match x43 with | (.inl _) => (some false) | (.inr r45) => (some r45))))))))))
theorem Ib (a_g : TGraph) (a_p1 : List ((Int × Int))) (r : Bool) (h : D1 a_g a_p1 = some r) : Spec Try.prog 45 [(.agg (Az a_g)), (AV.list 2 A7 ((0 : Int), (0 : Int)) a_p1 .none)] [] (.bool r) [] := by
  refine Ao (fn := Try.f45) Try.func45 rfl rfl (by kernel_rfl) (fun Γ hn hΓ => ?_); have hq : RgQ Try.prog Γ 117 [] := ⟨hn, mix, hΓ⟩; unfold D1 at h; refine As ⟨[(1, (Ix a_p1)), (2, (.ptr 2 0))], [(2, .row 26 (O8 a_g))], []⟩ hq ?_; obtain ⟨hc1, h⟩ := Ab h; refine B0 [] [] ⟨[(1, (Ix a_p1)), (2, (.ptr 2 0)), (5, (.vsl 18 ((Sz a_g)).toNat))], [(2, .row 26 (O8 a_g)), (18, .arr 1 36 (((Sz a_g)).toNat) (fun i_ => AV.eraseAll (fun n_ => Cr n_ [2, 18]) ((fun _ => [(.slice 0 0 (fun _ => []) .exact)]) i_)))], []⟩ [(0 ≤ (Sz a_g) ∧ (Sz a_g) ≤ (Sz a_g) ∧ (Sz a_g) ≤ (room : Int))] hq ⟨hc1, trivial⟩ ?_; refine Af (Le.trans (Cq (st' := ⟨[(1, (Ix a_p1)), (2, (.ptr 2 0)), (5, (.vsl 18 ((Sz a_g)).toNat))], [(2, .row 26 (O8 a_g)), (18, .arr 1 36 (((Sz a_g)).toNat) (B5 1 Ae (0 : Int) (S5 a_g) (fun _ => .exact)))], []⟩) (TmpsLe.refl _) (.same (.arr Q0 .nil))) (Le.trans (Le.trans (Nt (r := 18) (b := 70018) Ae (0 : Int) (S5 a_g) 3 rfl rfl (List.length_replicate ..).symm (fun h_ => absurd h_ (by decide))) (Bt (st' := ⟨[(1, (Ix a_p1)), (2, (.ptr 2 0)), (5, (.vsl 18 ((Sz a_g)).toNat))], [(2, .row 26 (O8 a_g)), (18, .arr 1 36 (((Sz a_g)).toNat) (B5 1 Ae (0 : Int) (S5 a_g) (Tag.fam 70018)))], [(70018, ⟨1, 3, Bs (S5 a_g)⟩)]⟩) (by kernel_rfl))) (Bt (congrArg (fun k_ : Nat => (⟨[(1, (Ix a_p1)), (2, (.ptr 2 0)), (5, (.vsl 18 k_))], [(2, .row 26 (O8 a_g)), (18, .arr 1 36 k_ (B5 1 Ae (0 : Int) (S5 a_g) (Tag.fam 70018)))], [(70018, ⟨1, 3, Bs (S5 a_g)⟩)]⟩ : St)) (show ((Sz a_g)).toNat = (S5 a_g).length from (List.length_replicate ..).symm))))) ?_; refine Ad ?_; refine As ⟨[(1, (Ix a_p1)), (2, (.ptr 2 0)), (5, (.vsl 18 (S5 a_g).length)), (6, (.int .i64 (0 : Int)))], [(2, .row 26 (O8 a_g)), (18, .arr 1 36 ((S5 a_g).length) (B5 1 Ae (0 : Int) (S5 a_g) (Tag.fam 70018)))], [(70018, ⟨1, 3, Bs (S5 a_g)⟩)]⟩ hq ?_; refine Ag ?_; refine Af (st' := (fun ((i2, l3) : (Int × List (List (Int)))) => (⟨[(1, (Ix a_p1)), (2, (.ptr 2 0)), (5, (.vsl 18 l3.length)), (6, (.int .i64 i2))], (Q358 a_g l3), [(70018, ⟨1, 3, Bs l3⟩)]⟩ : St)) ((0 : Int), (S5 a_g))) (Le.refl _ _) ?_; obtain ⟨x28, hx28, h⟩ := bind_some h; refine A2 (fun ((i2, l3) : (Int × List (List (Int)))) => (⟨[(1, (Ix a_p1)), (2, (.ptr 2 0)), (5, (.vsl 18 l3.length)), (6, (.int .i64 i2))], (Q358 a_g l3), [(70018, ⟨1, 3, Bs l3⟩)]⟩ : St)) _ (fun (l4 : List (List (Int))) (e : Exit) (st : St) => e = (.exit 0) ∧ Le Γ st (⟨[(5, (.vsl 18 l4.length))], [(18, .arr 1 36 l4.length (B5 1 Ae (0 : Int) l4 (Tag.fam 70018)))], [(70018, ⟨1, 3, Bs l4⟩)]⟩ : St)) ?_ hx28 ?_
  · rintro ⟨i2, l3⟩ y h; unfold Ce at h; refine Ad ?_; refine As ⟨[(1, (Ix a_p1)), (2, (.ptr 2 0)), (5, (.vsl 18 l3.length)), (6, (.int .i64 i2)), (22, (.bool (decide ((i2 : Int) < (l3.length : Int)))))], (Q358 a_g l3), [(70018, ⟨1, 3, Bs l3⟩)]⟩ hq ?_; refine Aj (decide ((i2 : Int) < (l3.length : Int))) (by kernel_rfl) (fun hb => ?_) (fun hb => ?_)
    · replace h := Am hb h; clear hb; refine Ah ?_; refine Aa ?_; refine Ad ?_; refine Ag ?_; refine As ⟨[(1, (Ix a_p1)), (2, (.ptr 2 0)), (5, (.vsl 18 l3.length)), (6, (.int .i64 i2)), (7, (.int .i64 (0 : Int)))], (Q358 a_g l3), [(70018, ⟨1, 3, Bs l3⟩)]⟩ hq ?_; refine Ag ?_; refine Af (st' := (fun ((i5, l6) : (Int × List (List (Int)))) => (⟨(Q360 a_p1 l6 i2 i5), (Sq a_g l6), [(70018, ⟨1, 3, Bs l6⟩)]⟩ : St)) ((0 : Int), l3)) (Le.refl _ _) ?_; obtain ⟨x26, hx26, h⟩ := bind_some h; refine A2 (fun ((i5, l6) : (Int × List (List (Int)))) => (⟨(Q360 a_p1 l6 i2 i5), (Sq a_g l6), [(70018, ⟨1, 3, Bs l6⟩)]⟩ : St)) _ (fun (l7 : List (List (Int))) (e : Exit) (st : St) => e = (.exit 2) ∧ Le Γ st (⟨[(1, (Ix a_p1)), (2, (.ptr 2 0)), (5, (.vsl 18 l7.length)), (6, (.int .i64 i2))], [(2, .row 26 (O8 a_g)), (18, .arr 1 36 l7.length (B5 1 Ae (0 : Int) l7 (Tag.fam 70018)))], [(70018, ⟨1, 3, Bs l7⟩)]⟩ : St)) ?_ hx26 ?_
      · rintro ⟨i5, l6⟩ y h; unfold Bm at h; refine Ad ?_; obtain ⟨hc8, h⟩ := Ab h; refine B0 [] [] ⟨[(1, (Ix a_p1)), (2, (.ptr 2 0)), (5, (Su l6)), (6, (.int .i64 i2)), (7, (.int .i64 i5)), (32, (.bool (decide ((i5 : Int) < ((a_g.Succ.getD (i2).toNat []).length : Int)))))], (Sq a_g l6), [(70018, ⟨1, 3, Bs l6⟩)]⟩ [(A3 i2 a_g.Succ.length)] hq ⟨hc8, trivial⟩ ?_; refine Aj (decide ((i5 : Int) < ((a_g.Succ.getD (i2).toNat []).length : Int))) (by kernel_rfl) (fun hb => ?_) (fun hb => ?_)
        · replace h := Am hb h; clear hb; refine Ah ?_; refine Aa ?_; refine Ad ?_; obtain ⟨x24, hx24, h⟩ := bind_some h; refine D8 (fun (l9 : List (List (Int))) (e : Exit) (st : St) => e = .normal ∧ Le Γ st (⟨[(1, (Ix a_p1)), (2, (.ptr 2 0)), (5, (.vsl 18 l9.length)), (6, (.int .i64 i2)), (7, (.int .i64 i5))], [(2, .row 26 (O8 a_g)), (18, .arr 1 36 l9.length (B5 1 Ae (0 : Int) l9 (Tag.fam 70018)))], [(70018, ⟨1, 3, Bs l9⟩)]⟩ : St)) hx24 ?_ ?_
          · clear h hx24; intro y h; refine Ag ?_; refine As ⟨[(1, (Ix a_p1)), (2, (.ptr 2 0)), (5, (Su l6)), (6, (.int .i64 i2)), (7, (.int .i64 i5)), (8, (.bool true))], (Sq a_g l6), [(70018, ⟨1, 3, Bs l6⟩)]⟩ hq ?_; refine Ad ?_; refine As ⟨[(1, (Ix a_p1)), (2, (.ptr 2 0)), (5, (Su l6)), (6, (.int .i64 i2)), (7, (.int .i64 i5)), (8, (.bool true)), (9, (.int .i64 (0 : Int)))], (Sq a_g l6), [(70018, ⟨1, 3, Bs l6⟩)]⟩ hq ?_; refine Ag ?_; refine Af (st' := (fun ((b10, i11) : (Bool × Int)) => (⟨[(1, (Ix a_p1)), (2, (.ptr 2 0)), (5, (Su l6)), (6, (.int .i64 i2)), (7, (.int .i64 i5)), (8, (.bool b10)), (9, (.int .i64 i11))], (Sq a_g l6), [(70018, ⟨1, 3, Bs l6⟩)]⟩ : St)) (true, (0 : Int))) (Le.refl _ _) ?_; obtain ⟨x16, hx16, h⟩ := bind_some h; refine A2 (fun ((b10, i11) : (Bool × Int)) => (⟨[(1, (Ix a_p1)), (2, (.ptr 2 0)), (5, (Su l6)), (6, (.int .i64 i2)), (7, (.int .i64 i5)), (8, (.bool b10)), (9, (.int .i64 i11))], (Sq a_g l6), [(70018, ⟨1, 3, Bs l6⟩)]⟩ : St)) _ (fun (b12 : Bool) (e : Exit) (st : St) => e = (.exit 4) ∧ Le Γ st (⟨[(1, (Ix a_p1)), (2, (.ptr 2 0)), (5, (Su l6)), (6, (.int .i64 i2)), (7, (.int .i64 i5)), (8, (.bool b12))], (Sq a_g l6), [(70018, ⟨1, 3, Bs l6⟩)]⟩ : St)) ?_ hx16 ?_
            · rintro ⟨b10, i11⟩ y h; unfold Ch at h; refine Ad ?_; refine As ⟨[(1, (Ix a_p1)), (2, (.ptr 2 0)), (5, (Su l6)), (6, (.int .i64 i2)), (7, (.int .i64 i5)), (8, (.bool b10)), (9, (.int .i64 i11)), (38, (.bool (decide ((i11 : Int) < (a_p1.length : Int)))))], (Sq a_g l6), [(70018, ⟨1, 3, Bs l6⟩)]⟩ hq ?_; refine Aj (decide ((i11 : Int) < (a_p1.length : Int))) (by kernel_rfl) (fun hb => ?_) (fun hb => ?_)
              · replace h := Am hb h; clear hb; refine Ah ?_; refine Aa ?_; refine Ad ?_; refine Ag ?_; obtain ⟨hc13, h⟩ := Ab h; obtain ⟨hc14, h⟩ := Ab h; obtain ⟨hc15, h⟩ := Ab h; refine rg [] [] ⟨[(1, (Ix a_p1)), (2, (.ptr 2 0)), (5, (Su l6)), (6, (.int .i64 i2)), (7, (.int .i64 i5)), (8, (Q355 b10 a_p1 i11 i2 a_g i5)), (9, (.int .i64 i11))], (Sq a_g l6), [(70018, ⟨1, 3, Bs l6⟩)]⟩ [((b10 == true) = true → (b10 == true) = true), ((b10 == true) = true → (b10 == true) = true), ((b10 == true) = true → (A3 i11 a_p1.length)), ((b10 == true) = true → (b10 == true) = true), ((b10 == true) = true → (b10 == true) = true), ((b10 == true) = true → (b10 == true) = true), ((b10 == true) = true → (b10 == true) = true), ((b10 == true) = true → (A3 i2 a_g.Succ.length)), ((b10 == true) = true → (b10 == true) = true), ((b10 == true) = true → (b10 == true) = true), ((b10 == true) = true → (b10 == true) = true), ((b10 == true) = true → (A3 i5 (a_g.Succ.getD (i2).toNat []).length)), ((b10 == true) = true → (b10 == true) = true), ((b10 == true) = true → (b10 == true) = true), ((b10 == true) = true → (b10 == true) = true), ((b10 == true) = true → (b10 == true) = true), ((b10 == true) = true → (b10 == true) = true), (b10 = true → (b10 == true) = true)] hq ⟨(fun hg => hg), (fun hg => hg), (fun hg => (hc13 hg)), (fun hg => hg), (fun hg => hg), (fun hg => hg), (fun hg => hg), (fun hg => (hc14 hg)), (fun hg => hg), (fun hg => hg), (fun hg => hg), (fun hg => (hc15 hg)), (fun hg => hg), (fun hg => hg), (fun hg => hg), (fun hg => hg), (fun hg => hg), gT, trivial⟩ ?_; refine Ai ?_; refine Aa ?_; refine It ⟨[(1, (Ix a_p1)), (2, (.ptr 2 0)), (5, (Su l6)), (6, (.int .i64 i2)), (7, (.int .i64 i5)), (8, (Q355 b10 a_p1 i11 i2 a_g i5)), (9, (.int .i64 (A9 (i11 + (1 : Int)))))], (Sq a_g l6), [(70018, ⟨1, 3, Bs l6⟩)]⟩ hq ?_; obtain rfl := OI h; exact ⟨rfl, Le.refl _ _⟩
              · replace h := Ar hb h; clear hb; refine A1 ?_; refine Ax ?_; obtain rfl := OI h; exact ⟨(by intro hh; cases hh), rfl, Fe [1, 2, 5, 6, 7, 8] [2, 18, 70018] hq⟩
            · clear hx16; rintro e st' ⟨rfl, hl17⟩; refine Aw ?_; refine Aa ?_; refine Af hl17 ?_; refine As ⟨[(1, (Ix a_p1)), (2, (.ptr 2 0)), (5, (Su l6)), (6, (.int .i64 i2)), (7, (.int .i64 i5)), (59, (.bool x16))], (Sq a_g l6), [(70018, ⟨1, 3, Bs l6⟩)]⟩ hq ?_; refine Aj x16 (by kernel_rfl) (fun hb => ?_) (fun hb => ?_)
              · replace h := Am hb h; clear hb; obtain ⟨hc18, h⟩ := Ab h; obtain ⟨hc19, h⟩ := Ab h; obtain ⟨hc20, h⟩ := Ab h; obtain ⟨hc21, h⟩ := Ab h; obtain ⟨hc22, h⟩ := Ab h; obtain ⟨hc23, h⟩ := Ab h; refine Af (Le.trans (P6 (r := 18) (b := 70018) (k := 60018) Ae (0 : Int) l6 (i2).toNat 3 rfl rfl rfl rfl (Dq hc18) (by kernel_rfl) (.row (by kernel_rfl) (.here .nil))) (Bt (st' := ⟨[(1, (Ix a_p1)), (2, (.ptr 2 0)), (5, (Su l6)), (6, (.int .i64 i2)), (7, (.int .i64 i5)), (59, (.bool x16))], [(2, .row 26 (O8 a_g)), (18, .arr 1 36 l6.length (B5 1 Ae (0 : Int) l6 (Dj 70018 (i2).toNat 60018))), (60018, .tok 1 3 ((Up l6 i2).length))], [(70018, ⟨1, 3, Ji l6 (i2).toNat⟩)]⟩) (by kernel_rfl))) ?_; refine rg [] [(65, (AV.list 1 Ae (0 : Int) (Up l6 i2) (.own 60018))), (74, (AV.list 1 Ae (0 : Int) (Zg a_g i2 i5) .exact)), (75, (AV.list 1 Ae (0 : Int) (Vn l6 i2 a_g i5) (.own 60018)))] ⟨(Q360 a_p1 l6 i2 i5), [(2, .row 26 (O8 a_g)), (18, .arr 1 36 l6.length (fun i_ => AV.eraseAll (fun n_ => Cr n_ [2, 18, 60018, 70018]) ((F5 (B5 1 Ae (0 : Int) l6 (Dj 70018 (i2).toNat 60018)) (i2).toNat 0 [(AV.list 1 Ae (0 : Int) (Vn l6 i2 a_g i5) (.own 60018))]) i_))), (60018, .tok 1 3 ((Vn l6 i2 a_g i5).length))], [(70018, ⟨1, 3, Ji l6 (i2).toNat⟩)]⟩ [(A3 i2 l6.length), (l6.length = l6.length), (AVle (((B5 1 Ae (0 : Int) l6 (Dj 70018 (i2).toNat 60018)) (i2).toNat).getD 0 .any) (AV.list 1 Ae (0 : Int) (Up l6 i2) (.own 60018))), (A3 i2 a_g.Succ.length), (A3 i5 (a_g.Succ.getD (i2).toNat []).length), (AVle (.slice 1 1 (fun i => ([[(.int .i64 ((a_g.Succ.getD (i2).toNat []).getD (i5).toNat (0 : Int)))]] : List (List AV)).getD i []) .exact) (AV.list 1 Ae (0 : Int) (Zg a_g i2 i5) .exact)), ((Up l6 i2).length = (Up l6 i2).length), ((Up l6 i2).length + (Zg a_g i2 i5).length ≤ room), (AVle (.slice 1 ((Up l6 i2).length + (Zg a_g i2 i5).length) (Fq (Up l6 i2).length (fun i => Ae ((Up l6 i2).getD i (0 : Int))) (fun i => Ae ((Zg a_g i2 i5).getD i (0 : Int)))) (.own 60018)) (AV.list 1 Ae (0 : Int) (Vn l6 i2 a_g i5) (.own 60018))), ((Up l6 i2).length + (Zg a_g i2 i5).length = (Vn l6 i2 a_g i5).length), (A3 i2 l6.length), (l6.length = l6.length)] hq ⟨hc19, rfl, Lz, hc20, hc21, (Fs rfl (fun i hi => Fb (e := Ae) (d := (0 : Int)) (Zg a_g i2 i5) i hi)), rfl, hc22, Js, (Eg _ _), hc23, rfl, trivial⟩ ?_; refine Ai ?_; obtain rfl := OI h; exact ⟨rfl, Le.trans (Le.trans (Le.trans (Ui (r := 18) (b := 70018) (k := 60018) Ae (0 : Int) l6 (i2).toNat (Vn l6 i2 a_g i5) 3 rfl (Ni (Dq hc18) rfl rfl) rfl rfl rfl rfl (Dq hc18) (by kernel_rfl) (.row (by kernel_rfl) (.here (.tok .nil))) (by rw [hΓ]; rfl)) (Bt (st' := ⟨(Q360 a_p1 l6 i2 i5), [(2, .row 26 (O8 a_g)), (18, .arr 1 36 l6.length (B5 1 Ae (0 : Int) (l6.set (i2).toNat (Vn l6 i2 a_g i5)) (Tag.fam 70018)))], [(70018, ⟨1, 3, Bs (l6.set (i2).toNat (Vn l6 i2 a_g i5))⟩)]⟩) (by kernel_rfl))) (Bt (congrArg (fun k_ : Nat => (⟨[(1, (Ix a_p1)), (2, (.ptr 2 0)), (5, (.vsl 18 k_)), (6, (.int .i64 i2)), (7, (.int .i64 i5))], [(2, .row 26 (O8 a_g)), (18, .arr 1 36 k_ (B5 1 Ae (0 : Int) (l6.set (i2).toNat (Vn l6 i2 a_g i5)) (Tag.fam 70018)))], [(70018, ⟨1, 3, Bs (l6.set (i2).toNat (Vn l6 i2 a_g i5))⟩)]⟩ : St)) (show l6.length = (l6.set (i2).toNat (Vn l6 i2 a_g i5)).length from (List.length_set ..).symm)))) (Le.refl _ _)⟩
              · replace h := Ar hb h; clear hb; refine Ah ?_; refine Ai ?_; obtain rfl := OI h; exact ⟨rfl, Fe [1, 2, 5, 6, 7] [2, 18, 70018] hq⟩
          · clear hx24; rintro e st' ⟨rfl, hl25⟩; refine Aa ?_; refine Af hl25 ?_; refine It ⟨[(1, (Ix a_p1)), (2, (.ptr 2 0)), (5, (.vsl 18 x24.length)), (6, (.int .i64 i2)), (7, (.int .i64 (A9 (i5 + (1 : Int)))))], [(2, .row 26 (O8 a_g)), (18, .arr 1 36 x24.length (B5 1 Ae (0 : Int) x24 (Tag.fam 70018)))], [(70018, ⟨1, 3, Bs x24⟩)]⟩ hq ?_; obtain rfl := OI h; exact ⟨rfl, Le.refl _ _⟩
        · replace h := Ar hb h; clear hb; refine A1 ?_; refine Ax ?_; obtain rfl := OI h; exact ⟨(by intro hh; cases hh), rfl, Fe [1, 2, 5, 6] [2, 18, 70018] hq⟩
      · clear hx26; rintro e st' ⟨rfl, hl27⟩; refine Aw ?_; refine Ai ?_; refine Aa ?_; refine Af hl27 ?_; refine It ⟨[(1, (Ix a_p1)), (2, (.ptr 2 0)), (5, (.vsl 18 x26.length)), (6, (.int .i64 (A9 (i2 + (1 : Int)))))], [(2, .row 26 (O8 a_g)), (18, .arr 1 36 x26.length (B5 1 Ae (0 : Int) x26 (Tag.fam 70018)))], [(70018, ⟨1, 3, Bs x26⟩)]⟩ hq ?_; obtain rfl := OI h; exact ⟨rfl, Le.refl _ _⟩
    · replace h := Ar hb h; clear hb; refine A1 ?_; refine Ax ?_; obtain rfl := OI h; exact ⟨(by intro hh; cases hh), rfl, Fe [5] [18, 70018] hq⟩
  · clear hx28; rintro e st' ⟨rfl, hl29⟩; refine Aw ?_; refine Aa ?_; refine Af hl29 ?_; refine Ad ?_; refine Af (Le.trans (F8 (nm := 18) (sz := 1) (n := x28.length) (e := 36) (f := (B5 1 Ae (0 : Int) x28 (Tag.fam 70018))) (g := (fun i => eLI64 (x28.getD i []))) rfl ⟨rfl, trivial⟩ (fun _ _ => rfl) (by rw [hΓ]; rfl)) (Fe (st' := ⟨[(5, (Rp x28))], [(18, .tok 1 36 x28.length)], []⟩) [5] [18] hq)) ?_; obtain ⟨x30, hx30, h⟩ := bind_some h; refine rg [⟨[], [], (.tuple [(.agg (Az x30.1)), (.int .i64 x30.2)]), [], []⟩] [] ⟨[(5, (Rp x28)), (10, (.ptr 10 0))], [(10, .row 26 [(AV.list 1 eLI64 [] x30.1.Succ .none), (AV.list 1 eLI64 [] x30.1.Pred .none)]), (18, .tok 1 36 x28.length)], []⟩ [(Spec Try.prog 56 [(AV.list 1 eLI64 [] x28 .none)] [] (.tuple [(.agg (Az x30.1)), (.int .i64 x30.2)]) [])] hq ⟨(Ig x28 x30 hx30), trivial⟩ ?_; refine Aa ?_; obtain ⟨x31, hx31, h⟩ := bind_some h; refine B0 [⟨[], [(20000, 83)], (AV.list 1 eB false x31 (.own 20000)), [(20000, .tok 1 4 x31.length)], []⟩] [] ⟨[(5, (Rp x28)), (10, (.ptr 10 0)), (12, (Vj x31))], (Uq x30 x28 x31), []⟩ [(Spec Try.prog 17 [(.agg (Az x30.1)), (.int .i64 (0 : Int)), (.int .i64 (-1 : Int))] [] (AV.list 1 eB false x31 (.own 20000)) [(20000, .tok 1 4 x31.length)])] hq ⟨(Dr x30.1 (0 : Int) (-1 : Int) x31 hx31), trivial⟩ ?_; refine Ad ?_; refine As ⟨[(5, (Rp x28)), (10, (.ptr 10 0)), (12, (Vj x31)), (13, (.int .i64 (0 : Int)))], (Uq x30 x28 x31), []⟩ hq ?_; refine Ag ?_; refine Af (st' := (fun (i32 : Int) => (Q361 x28 x31 i32 x30)) (0 : Int)) (Le.refl _ _) ?_; obtain ⟨x43, hx43, h⟩ := bind_some h; refine A2 (fun (i32 : Int) => (Q361 x28 x31 i32 x30)) _ (fun (x_ : (Unit ⊕ Bool)) (e : Exit) (st : St) => match x_ with | (.inl _) => e = (.exit 6) ∧ Le Γ st (⟨[], [], []⟩ : St) | (.inr r_) => e = .ret ∧ Jr Try.prog Try.f45.results.toList [] (.bool r_) [] e st) ?_ hx43 ?_
    · intro i32 y h; unfold Bn at h; refine Ad ?_; refine As ⟨[(5, (Rp x28)), (10, (.ptr 10 0)), (12, (Vj x31)), (13, (.int .i64 i32)), (87, (.bool (decide ((i32 : Int) < (x28.length : Int)))))], (Uq x30 x28 x31), []⟩ hq ?_; refine Aj (decide ((i32 : Int) < (x28.length : Int))) (by kernel_rfl) (fun hb => ?_) (fun hb => ?_)
      · replace h := Am hb h; clear hb; refine Ah ?_; refine Aa ?_; refine Ad ?_; refine Ag ?_; refine As ⟨[(5, (Rp x28)), (10, (.ptr 10 0)), (12, (Vj x31)), (13, (.int .i64 i32)), (14, (.int .i64 (0 : Int)))], (Uq x30 x28 x31), []⟩ hq ?_; refine Ag ?_; refine Af (st' := (fun (i33 : Int) => (⟨[(5, (Rp x28)), (10, (.ptr 10 0)), (12, (Vj x31)), (13, (.int .i64 i32)), (14, (.int .i64 i33))], (Uq x30 x28 x31), []⟩ : St)) (0 : Int)) (Le.refl _ _) ?_; obtain ⟨x40, hx40, h⟩ := bind_some h; refine A2 (fun (i33 : Int) => (⟨[(5, (Rp x28)), (10, (.ptr 10 0)), (12, (Vj x31)), (13, (.int .i64 i32)), (14, (.int .i64 i33))], (Uq x30 x28 x31), []⟩ : St)) _ (fun (x_ : (Unit ⊕ Bool)) (e : Exit) (st : St) => match x_ with | (.inl _) => e = (.exit 8) ∧ Le Γ st (Q361 x28 x31 i32 x30) | (.inr r_) => e = .ret ∧ Jr Try.prog Try.f45.results.toList [] (.bool r_) [] e st) ?_ hx40 ?_
        · intro i33 y h; unfold Be at h; refine Ad ?_; obtain ⟨hc34, h⟩ := Ab h; obtain ⟨hc35, h⟩ := Ab h; refine B0 [] [] ⟨[(5, (Rp x28)), (10, (.ptr 10 0)), (12, (Vj x31)), (13, (.int .i64 i32)), (14, (.int .i64 i33)), (102, (.bool (bif (x31.getD (i32).toNat false) then (decide ((i33 : Int) < ((x28.getD (i32).toNat []).length : Int))) else false)))], (Uq x30 x28 x31), []⟩ [(A3 i32 x31.length), ((Qn x31 i32) = true → (Qn x31 i32) = true), ((Qn x31 i32) = true → (Qn x31 i32) = true), ((Qn x31 i32) = true → (A3 i32 x28.length)), ((Qn x31 i32) = true → (Qn x31 i32) = true), ((Qn x31 i32) = true → (Qn x31 i32) = true), ((Qn x31 i32) = true → (Qn x31 i32) = true), ((Qn x31 i32) = true → (Qn x31 i32) = true), ((x31.getD (i32).toNat false) = true → (Qn x31 i32) = true)] hq ⟨hc34, (fun hg => hg), (fun hg => hg), (fun hg => (hc35 hg)), (fun hg => hg), (fun hg => hg), (fun hg => hg), (fun hg => hg), gT, trivial⟩ ?_; refine Aj (bif (x31.getD (i32).toNat false) then (decide ((i33 : Int) < ((x28.getD (i32).toNat []).length : Int))) else false) (by kernel_rfl) (fun hb => ?_) (fun hb => ?_)
          · replace h := Am hb h; clear hb; refine Ah ?_; refine Aa ?_; refine Ad ?_; refine Ag ?_; obtain ⟨hc36, h⟩ := Ab h; obtain ⟨hc37, h⟩ := Ab h; obtain ⟨x38, hx38, h⟩ := bind_some h; obtain ⟨hc39, h⟩ := Ab h; refine B0 [⟨[], [(20000, 113)], (AV.list 1 eB false x38 (.own 20000)), [(20000, .tok 1 4 x38.length)], []⟩] [] ⟨[(5, (Rp x28)), (10, (.ptr 10 0)), (12, (Vj x31)), (13, (.int .i64 i32)), (14, (.int .i64 i33)), (116, (.bool (x38.getD (i32).toNat false)))], (Uq x30 x28 x31), []⟩ [(A3 i32 x28.length), (A3 i33 (x28.getD (i32).toNat []).length), (Spec Try.prog 17 [(.agg (Az x30.1)), (.int .i64 ((x28.getD (i32).toNat []).getD (i33).toNat (0 : Int))), (.int .i64 (-1 : Int))] [] (AV.list 1 eB false x38 (.own 20000)) [(20000, .tok 1 4 x38.length)]), (A3 i32 x38.length)] hq ⟨hc36, hc37, (Dr x30.1 ((x28.getD (i32).toNat []).getD (i33).toNat (0 : Int)) (-1 : Int) x38 hx38), hc39, trivial⟩ ?_; refine Aj (x38.getD (i32).toNat false) (by kernel_rfl) (fun hb => ?_) (fun hb => ?_)
            · replace h := Am hb h; clear hb; refine As ⟨[(4, (.bool true))], [], []⟩ hq ?_; refine Aq ?_; refine A6 ?_; refine Ay ?_; obtain rfl := OI h; exact ⟨(by intro hh; cases hh), rfl, ⟨.inl rfl, [], by kernel_rfl⟩⟩
            · replace h := Ar hb h; clear hb; refine Ah ?_; refine Ai ?_; refine Aa ?_; refine It ⟨[(5, (Rp x28)), (10, (.ptr 10 0)), (12, (Vj x31)), (13, (.int .i64 i32)), (14, (.int .i64 (A9 (i33 + (1 : Int)))))], (Uq x30 x28 x31), []⟩ hq ?_; obtain rfl := OI h; exact ⟨rfl, Le.refl _ _⟩
          · replace h := Ar hb h; clear hb; refine A1 ?_; refine Ax ?_; obtain rfl := OI h; exact ⟨(by intro hh; cases hh), rfl, Fe [5, 10, 12, 13] [10, 18, 83] hq⟩
        · clear hx40; rcases x40 with _ | r42
          · rintro e st' ⟨rfl, hl41⟩; refine Aw ?_; refine Ai ?_; refine Aa ?_; refine Af hl41 ?_; refine It ⟨[(5, (Rp x28)), (10, (.ptr 10 0)), (12, (Vj x31)), (13, (.int .i64 (A9 (i32 + (1 : Int)))))], (Uq x30 x28 x31), []⟩ hq ?_; obtain rfl := OI h; exact ⟨rfl, Le.refl _ _⟩
          · rintro e st' ⟨rfl, hk⟩; refine A6 ?_; refine A6 ?_; refine Ay ?_; obtain rfl := OI h; exact ⟨(by intro hh; cases hh), rfl, hk⟩
      · replace h := Ar hb h; clear hb; refine A1 ?_; refine Ax ?_; obtain rfl := OI h; exact ⟨(by intro hh; cases hh), rfl, Fe [] [] hq⟩
    · clear hx43; rcases x43 with _ | r45
      · rintro e st' ⟨rfl, hl44⟩; refine Aw ?_; refine Aa ?_; refine Af hl44 ?_; refine As ⟨[(4, (.bool false))], [], []⟩ hq ?_; refine Aq ?_; obtain rfl := OI h; exact ⟨.inl rfl, [], by kernel_rfl⟩
      · rintro e st' ⟨rfl, hk⟩; refine A6 ?_; refine Ay ?_; obtain rfl := OI h; exact hk
def Ds (a_g : TGraph) : Option Bool :=
  ((Dd a_g).bind fun x1 => ((bif (x1 == true) then Cm a_g else some []).bind fun x2 => ((bif (x1 == true) then D1 a_g x2 else some false).bind fun x3 => (some (bif x1 then (!x3) else false)))))
theorem Ki (a_g : TGraph) (r : Bool) (h : Ds a_g = some r) : Spec Try.prog 28 [(.agg (Az a_g))] [] (.bool r) [] := by
  refine Ao (fn := Try.f28) Try.func28 rfl rfl (by kernel_rfl) (fun Γ hn hΓ => ?_); have hq : RgQ Try.prog Γ 12 [] := ⟨hn, mix, hΓ⟩; unfold Ds at h; refine As ⟨[(1, (.ptr 1 0))], [(1, .row 26 [(AV.list 1 eLI64 [] a_g.Succ .none), (AV.list 1 eLI64 [] a_g.Pred .none)])], []⟩ hq ?_; obtain ⟨x1, hx1, h⟩ := bind_some h; obtain ⟨x2, hx2, h⟩ := bind_some h; obtain ⟨x3, hx3, h⟩ := bind_some h; refine B0 [⟨[], [], (.bool x1), [], []⟩, ⟨[], [], (AV.list 2 A7 ((0 : Int), (0 : Int)) x2 .none), [], []⟩, ⟨[], [], (.bool x3), [], []⟩] [] ⟨[(2, (.bool (bif x1 then (!x3) else false)))], [], []⟩ [(Spec Try.prog 43 [(.agg (Az a_g))] [] (.bool x1) []), ((x1 == true) = true → (x1 == true) = true), ((x1 == true) = true → (Spec Try.prog 25 [(.agg (Az a_g))] [] (AV.list 2 A7 ((0 : Int), (0 : Int)) x2 .none) [])), ((x1 == true) = true → (x1 == true) = true), ((x1 == true) = true → (x1 == true) = true), ((x1 == true) = true → (Spec Try.prog 45 [(.agg (Az a_g)), (AV.list 2 A7 ((0 : Int), (0 : Int)) x2 .none)] [] (.bool x3) [])), ((x1 == true) = true → (x1 == true) = true), (x1 = true → (x1 == true) = true)] hq ⟨(Fy a_g x1 hx1), (fun hg => hg), (fun hg => (Spec.drop (Gg a_g x2 (Am hg hx2)))), (fun hg => hg), (fun hg => hg), (fun hg => (Ib a_g x2 x3 (Am hg hx3))), (fun hg => hg), gT, trivial⟩ ?_; refine Aq ?_; obtain rfl := OI h; exact ⟨.inl rfl, [], by kernel_rfl⟩
def Ef (a_g : TGraph) : Option Bool :=
  ((Dd a_g).bind fun x1 => ((bif (x1 == true) then D1 a_g ([] : List (Int × Int)) else some false).bind fun x2 => (some (bif x1 then (!x2) else false))))
theorem K9 (a_g : TGraph) (r : Bool) (h : Ef a_g = some r) : Spec Try.prog 29 [(.agg (Az a_g))] [] (.bool r) [] := by
  refine Ao (fn := Try.f29) Try.func29 rfl rfl (by kernel_rfl) (fun Γ hn hΓ => ?_); have hq : RgQ Try.prog Γ 10 [] := ⟨hn, mix, hΓ⟩; unfold Ef at h; refine As ⟨[(1, (.ptr 1 0))], [(1, .row 26 [(AV.list 1 eLI64 [] a_g.Succ .none), (AV.list 1 eLI64 [] a_g.Pred .none)])], []⟩ hq ?_; obtain ⟨x1, hx1, h⟩ := bind_some h; obtain ⟨x2, hx2, h⟩ := bind_some h; refine B0 [⟨[], [], (.bool x1), [], []⟩, ⟨[], [], (.bool x2), [], []⟩] [] ⟨[(2, (.bool (bif x1 then (!x2) else false)))], [], []⟩ [(Spec Try.prog 43 [(.agg (Az a_g))] [] (.bool x1) []), ((x1 == true) = true → (x1 == true) = true), ((x1 == true) = true → (Spec Try.prog 45 [(.agg (Az a_g)), (.slice 0 0 (fun _ => []) .none)] [] (.bool x2) [])), ((x1 == true) = true → (x1 == true) = true), (x1 = true → (x1 == true) = true)] hq ⟨(Fy a_g x1 hx1), (fun hg => hg), (fun hg => (Spec.args (.cons (AVle.refl _) (.cons av_nil0 .nil)) (Ib a_g ([] : List (Int × Int)) x2 (Am hg hx2)))), (fun hg => hg), gT, trivial⟩ ?_; refine Aq ?_; obtain rfl := OI h; exact ⟨.inl rfl, [], by kernel_rfl⟩
def Cp (x1 : List ((Int × Int))) (x2 : List ((Int × Int))) : Int → Option (LR Int (Unit ⊕ Bool)) :=
  fun (i3 : Int) => (bif (decide ((i3 : Int) < (x1.length : Int))) then (Bz (A3 i3 x1.length) (Bz (A3 i3 x2.length) (bif (!((((x1.getD (i3).toNat ((0 : Int), (0 : Int))).1 : Int) == (x2.getD (i3).toNat ((0 : Int), (0 : Int))).1) && ((((x1.getD (i3).toNat ((0 : Int), (0 : Int))).2 : Int) == (x2.getD (i3).toNat ((0 : Int), (0 : Int))).2) && true))) then (some (.done (.inr false))) else (some (.next (A9 (i3 + (1 : Int)))))))) else (some (.done (.inl ()))))
def Co (a_p1 : Int) (x8 : List (At)) : (Int × Int) → Option (LR (Int × Int) Int) :=
  fun ((i9, i10) : (Int × Int)) => (bif (decide ((i10 : Int) < (x8.length : Int))) then (Option.bind (α := Int) (Bz (A3 i10 x8.length) ((Df ((x8.getD (i10).toNat (default : At)).Body) a_p1).bind fun x14 => (bif x14 then (some ((A9 (i9 + (1 : Int))))) else (some (i9))))) (fun x15 => ((some (.next (x15, (A9 (i10 + (1 : Int))))))))) else (some (.done i9)))
def Jw (a_p1 : Int) : AV := (.int .i64 a_p1)
def Pr (x20 : Bool) (x21 : Int) (x17 : Int) := (bif x20 then ((x21 : Int) == x17) else false)
def Tt (x8 : List (At)) : AV := (AV.list 2 Bx (default : At) x8 (.own 36))
def Q363 (a_g : TGraph) : List AV := [(AV.list 1 eLI64 [] a_g.Succ .none), (AV.list 1 eLI64 [] a_g.Pred .none)]
def Vi (a_g : TGraph) (x8 : List (At)) : List (Nat × Own) := [(2, .row 26 (Q363 a_g)), (36, .tok 2 38 x8.length)]
def X9 (x1 : List ((Int × Int))) : AV := (AV.list 2 A7 ((0 : Int), (0 : Int)) x1 (.own 12))
def Q367 (x2 : List ((Int × Int))) : AV := (AV.list 2 A7 ((0 : Int), (0 : Int)) x2 (.own 14))
def Vw (x20 : Bool) (x21 : Int) (x17 : Int) (x22 : Bool) (x23 : Bool) := ((bif (Pr x20 x21 x17) then (x22 == x23) else false) == true)
def Zy (a_g : TGraph) (x1 : List ((Int × Int))) (x2 : List ((Int × Int))) : List (Nat × Own) := [(2, .row 26 (Q363 a_g)), (12, .tok 2 45 x1.length), (14, .tok 2 45 x2.length)]
def Q368 (x1 : List ((Int × Int))) (i3 : Int) (x2 : List ((Int × Int))) := (!((((x1.getD (i3).toNat ((0 : Int), (0 : Int))).1 : Int) == (x2.getD (i3).toNat ((0 : Int), (0 : Int))).1) && ((((x1.getD (i3).toNat ((0 : Int), (0 : Int))).2 : Int) == (x2.getD (i3).toNat ((0 : Int), (0 : Int))).2) && true)))
def Ec (a_g : TGraph) (a_p1 : Int) : Option Bool :=
  ((E6 a_g).bind fun x1 => ((Cm a_g).bind fun x2 => (bif (((x1.length : Int) : Int) != (x2.length : Int)) then (some false) else ((Au (S := Int) (X := (Unit ⊕ Bool)) (Cp x1 x2) (0 : Int)).bind (fun x6 => (match x6 with | (.inl _) => ((Fg a_g).bind fun x8 => ((Au (S := (Int × Int)) (X := Int) (Co a_p1 x8) ((0 : Int), (0 : Int))).bind (fun x17 => (((Gy a_g).bind fun x19 => ((Ew x19 x8).bind fun x20 => ((bif (x20 == true) then F0 a_g a_p1 else some (0 : Int)).bind fun x21 => ((bif ((bif x20 then ((x21 : Int) == x17) else false) == true) then E1 a_g else some false).bind fun x22 => ((bif ((bif x20 then ((x21 : Int) == x17) else false) == true) then Ds a_g else some false).bind fun x23 => ((bif ((bif (bif x20 then ((x21 : Int) == x17) else false) then (x22 == x23) else false) == true) then Fa a_g else some false).bind fun x24 => ((bif ((bif (bif x20 then ((x21 : Int) == x17) else false) then (x22 == x23) else false) == true) then Ef a_g else some false).bind fun x25 => (some (bif (bif (bif x20 then ((x21 : Int) == x17) else false) then (x22 == x23) else false) then (x24 == x25) else false))))))))))))) | (.inr r26) => (some r26)))))))
theorem Ih (a_g : TGraph) (a_p1 : Int) (r : Bool) (h : Ec a_g a_p1 = some r) : Spec Try.prog 11 [(.agg (Az a_g)), (.int .i64 a_p1)] [] (.bool r) [] := by
  refine Ao (fn := Try.f11) Try.func11 rfl rfl (by kernel_rfl) (fun Γ hn hΓ => ?_); have hq : RgQ Try.prog Γ 77 [] := ⟨hn, mix, hΓ⟩; unfold Ec at h; refine As ⟨[(1, (Jw a_p1)), (2, (.ptr 2 0))], [(2, .row 26 (Q363 a_g))], []⟩ hq ?_; obtain ⟨x1, hx1, h⟩ := bind_some h; refine B0 [⟨[], [(20000, 12)], (AV.list 2 A7 ((0 : Int), (0 : Int)) x1 (.own 20000)), [(20000, .tok 2 45 x1.length)], []⟩] [] ⟨[(1, (Jw a_p1)), (2, (.ptr 2 0)), (5, (X9 x1))], [(2, .row 26 (Q363 a_g)), (12, .tok 2 45 x1.length)], []⟩ [(Spec Try.prog 18 [(.agg (Az a_g))] [] (AV.list 2 A7 ((0 : Int), (0 : Int)) x1 (.own 20000)) [(20000, .tok 2 45 x1.length)])] hq ⟨(I6 a_g x1 hx1), trivial⟩ ?_; obtain ⟨x2, hx2, h⟩ := bind_some h; refine B0 [⟨[], [(20000, 14)], (AV.list 2 A7 ((0 : Int), (0 : Int)) x2 (.own 20000)), [(20000, .tok 2 45 x2.length)], []⟩] [] ⟨[(1, (Jw a_p1)), (2, (.ptr 2 0)), (5, (X9 x1)), (6, (Q367 x2))], (Zy a_g x1 x2), []⟩ [(Spec Try.prog 25 [(.agg (Az a_g))] [] (AV.list 2 A7 ((0 : Int), (0 : Int)) x2 (.own 20000)) [(20000, .tok 2 45 x2.length)])] hq ⟨(Gg a_g x2 hx2), trivial⟩ ?_; refine Ad ?_; refine As ⟨[(1, (Jw a_p1)), (2, (.ptr 2 0)), (5, (X9 x1)), (6, (Q367 x2)), (19, (.bool (((x1.length : Int) : Int) != (x2.length : Int))))], (Zy a_g x1 x2), []⟩ hq ?_; refine Aj (((x1.length : Int) : Int) != (x2.length : Int)) (by kernel_rfl) (fun hb => ?_) (fun hb => ?_)
  · replace h := Am hb h; clear hb; refine As ⟨[(4, (.bool false))], [], []⟩ hq ?_; refine Aq ?_; refine Ay ?_; obtain rfl := OI h; exact ⟨.inl rfl, [], by kernel_rfl⟩
  · replace h := Ar hb h; clear hb; refine Ah ?_; refine Aa ?_; refine Ad ?_; refine As ⟨[(1, (Jw a_p1)), (2, (.ptr 2 0)), (5, (X9 x1)), (6, (Q367 x2)), (7, (.int .i64 (0 : Int)))], (Zy a_g x1 x2), []⟩ hq ?_; refine Ag ?_; refine Af (st' := (fun (i3 : Int) => (⟨[(1, (Jw a_p1)), (2, (.ptr 2 0)), (5, (X9 x1)), (6, (Q367 x2)), (7, (.int .i64 i3))], (Zy a_g x1 x2), []⟩ : St)) (0 : Int)) (Le.refl _ _) ?_; obtain ⟨x6, hx6, h⟩ := bind_some h; refine A2 (fun (i3 : Int) => (⟨[(1, (Jw a_p1)), (2, (.ptr 2 0)), (5, (X9 x1)), (6, (Q367 x2)), (7, (.int .i64 i3))], (Zy a_g x1 x2), []⟩ : St)) _ (fun (x_ : (Unit ⊕ Bool)) (e : Exit) (st : St) => match x_ with | (.inl _) => e = (.exit 0) ∧ Le Γ st (⟨[(1, (Jw a_p1)), (2, (.ptr 2 0))], [(2, .row 26 (Q363 a_g))], []⟩ : St) | (.inr r_) => e = .ret ∧ Jr Try.prog Try.f11.results.toList [] (.bool r_) [] e st) ?_ hx6 ?_
    · intro i3 y h; unfold Cp at h; refine Ad ?_; refine As ⟨[(1, (Jw a_p1)), (2, (.ptr 2 0)), (5, (X9 x1)), (6, (Q367 x2)), (7, (.int .i64 i3)), (23, (.bool (decide ((i3 : Int) < (x1.length : Int)))))], (Zy a_g x1 x2), []⟩ hq ?_; refine Aj (decide ((i3 : Int) < (x1.length : Int))) (by kernel_rfl) (fun hb => ?_) (fun hb => ?_)
      · replace h := Am hb h; clear hb; refine Ah ?_; refine Aa ?_; refine Ad ?_; refine Ag ?_; obtain ⟨hc4, h⟩ := Ab h; obtain ⟨hc5, h⟩ := Ab h; refine B0 [] [] ⟨[(1, (Jw a_p1)), (2, (.ptr 2 0)), (5, (X9 x1)), (6, (Q367 x2)), (7, (.int .i64 i3)), (34, (.bool (Q368 x1 i3 x2)))], (Zy a_g x1 x2), []⟩ [(A3 i3 x1.length), (A3 i3 x2.length)] hq ⟨hc4, hc5, trivial⟩ ?_; refine Aj (Q368 x1 i3 x2) (by kernel_rfl) (fun hb => ?_) (fun hb => ?_)
        · replace h := Am hb h; clear hb; refine As ⟨[(4, (.bool false))], [], []⟩ hq ?_; refine Aq ?_; refine A6 ?_; refine Ay ?_; obtain rfl := OI h; exact ⟨(by intro hh; cases hh), rfl, ⟨.inl rfl, [], by kernel_rfl⟩⟩
        · replace h := Ar hb h; clear hb; refine Ah ?_; refine Ai ?_; refine Aa ?_; refine It ⟨[(1, (Jw a_p1)), (2, (.ptr 2 0)), (5, (X9 x1)), (6, (Q367 x2)), (7, (.int .i64 (A9 (i3 + (1 : Int)))))], (Zy a_g x1 x2), []⟩ hq ?_; obtain rfl := OI h; exact ⟨rfl, Le.refl _ _⟩
      · replace h := Ar hb h; clear hb; refine A1 ?_; refine Ax ?_; obtain rfl := OI h; exact ⟨(by intro hh; cases hh), rfl, Fe [1, 2] [2] hq⟩
    · clear hx6; rcases x6 with _ | r26
      · rintro e st' ⟨rfl, hl7⟩; refine Aw ?_; refine Aa ?_; refine Af hl7 ?_; obtain ⟨x8, hx8, h⟩ := bind_some h; refine B0 [⟨[], [(20000, 36)], (AV.list 2 Bx (default : At) x8 (.own 20000)), [(20000, .tok 2 38 x8.length)], []⟩] [] ⟨[(1, (Jw a_p1)), (2, (.ptr 2 0)), (8, (Tt x8))], (Vi a_g x8), []⟩ [(Spec Try.prog 26 [(.agg (Az a_g))] [] (AV.list 2 Bx (default : At) x8 (.own 20000)) [(20000, .tok 2 38 x8.length)])] hq ⟨(Nu a_g x8 hx8), trivial⟩ ?_; refine As ⟨[(1, (Jw a_p1)), (2, (.ptr 2 0)), (8, (Tt x8)), (9, (.int .i64 (0 : Int)))], (Vi a_g x8), []⟩ hq ?_; refine Ad ?_; refine As ⟨[(1, (Jw a_p1)), (2, (.ptr 2 0)), (8, (Tt x8)), (9, (.int .i64 (0 : Int))), (10, (.int .i64 (0 : Int)))], (Vi a_g x8), []⟩ hq ?_; refine Ag ?_; refine Af (st' := (fun ((i9, i10) : (Int × Int)) => (⟨[(1, (Jw a_p1)), (2, (.ptr 2 0)), (8, (Tt x8)), (9, (.int .i64 i9)), (10, (.int .i64 i10))], (Vi a_g x8), []⟩ : St)) ((0 : Int), (0 : Int))) (Le.refl _ _) ?_; obtain ⟨x17, hx17, h⟩ := bind_some h; refine A2 (fun ((i9, i10) : (Int × Int)) => (⟨[(1, (Jw a_p1)), (2, (.ptr 2 0)), (8, (Tt x8)), (9, (.int .i64 i9)), (10, (.int .i64 i10))], (Vi a_g x8), []⟩ : St)) _ (fun (i11 : Int) (e : Exit) (st : St) => e = (.exit 2) ∧ Le Γ st (⟨[(1, (Jw a_p1)), (2, (.ptr 2 0)), (8, (Tt x8)), (9, (.int .i64 i11))], (Vi a_g x8), []⟩ : St)) ?_ hx17 ?_
        · rintro ⟨i9, i10⟩ y h; unfold Co at h; refine Ad ?_; refine As ⟨[(1, (Jw a_p1)), (2, (.ptr 2 0)), (8, (Tt x8)), (9, (.int .i64 i9)), (10, (.int .i64 i10)), (40, (.bool (decide ((i10 : Int) < (x8.length : Int)))))], (Vi a_g x8), []⟩ hq ?_; refine Aj (decide ((i10 : Int) < (x8.length : Int))) (by kernel_rfl) (fun hb => ?_) (fun hb => ?_)
          · replace h := Am hb h; clear hb; refine Ah ?_; refine Aa ?_; refine Ad ?_; obtain ⟨x15, hx15, h⟩ := bind_some h; refine D8 (fun (i12 : Int) (e : Exit) (st : St) => e = .normal ∧ Le Γ st (⟨[(1, (Jw a_p1)), (2, (.ptr 2 0)), (8, (Tt x8)), (9, (.int .i64 i12)), (10, (.int .i64 i10))], (Vi a_g x8), []⟩ : St)) hx15 ?_ ?_
            · clear h hx15; intro y h; refine Ag ?_; obtain ⟨hc13, h⟩ := Ab h; obtain ⟨x14, hx14, h⟩ := bind_some h; refine B0 [⟨[], [], (.bool x14), [], []⟩] [] ⟨[(1, (Jw a_p1)), (2, (.ptr 2 0)), (8, (Tt x8)), (9, (.int .i64 i9)), (10, (.int .i64 i10)), (49, (.bool x14))], (Vi a_g x8), []⟩ [(A3 i10 x8.length), (Spec Try.prog 14 [(AV.list 1 Ae (0 : Int) (x8.getD (i10).toNat (default : At)).Body .none), (Jw a_p1)] [] (.bool x14) [])] hq ⟨hc13, (G0 ((x8.getD (i10).toNat (default : At)).Body) a_p1 x14 hx14), trivial⟩ ?_; refine Aj x14 (by kernel_rfl) (fun hb => ?_) (fun hb => ?_)
              · replace h := Am hb h; clear hb; refine It ⟨[(1, (Jw a_p1)), (2, (.ptr 2 0)), (8, (Tt x8)), (9, (.int .i64 (A9 (i9 + (1 : Int))))), (10, (.int .i64 i10))], (Vi a_g x8), []⟩ hq ?_; refine Ai ?_; obtain rfl := OI h; exact ⟨rfl, Le.refl _ _⟩
              · replace h := Ar hb h; clear hb; refine Ah ?_; refine Ai ?_; obtain rfl := OI h; exact ⟨rfl, Fe [1, 2, 8, 9, 10] [2, 36] hq⟩
            · clear hx15; rintro e st' ⟨rfl, hl16⟩; refine Aa ?_; refine Af hl16 ?_; refine It ⟨[(1, (Jw a_p1)), (2, (.ptr 2 0)), (8, (Tt x8)), (9, (.int .i64 x15)), (10, (.int .i64 (A9 (i10 + (1 : Int)))))], (Vi a_g x8), []⟩ hq ?_; obtain rfl := OI h; exact ⟨rfl, Le.refl _ _⟩
          · replace h := Ar hb h; clear hb; refine A1 ?_; refine Ax ?_; obtain rfl := OI h; exact ⟨(by intro hh; cases hh), rfl, Fe [1, 2, 8, 9] [2, 36] hq⟩
        · clear hx17; rintro e st' ⟨rfl, hl18⟩; refine Aw ?_; refine Aa ?_; refine Af hl18 ?_; obtain ⟨x19, hx19, h⟩ := bind_some h; obtain ⟨x20, hx20, h⟩ := bind_some h; obtain ⟨x21, hx21, h⟩ := bind_some h; obtain ⟨x22, hx22, h⟩ := bind_some h; obtain ⟨x23, hx23, h⟩ := bind_some h; obtain ⟨x24, hx24, h⟩ := bind_some h; obtain ⟨x25, hx25, h⟩ := bind_some h; refine B0 [⟨[], [(20000, 53)], (AV.list 2 Bx (default : At) x19 (.own 20000)), [(20000, .tok 2 38 x19.length)], []⟩, ⟨[], [], (.bool x20), [], []⟩, ⟨[], [], (.int .i64 x21), [], []⟩, ⟨[], [], (.bool x22), [], []⟩, ⟨[], [], (.bool x23), [], []⟩, ⟨[], [], (.bool x24), [], []⟩, ⟨[], [], (.bool x25), [], []⟩] [] ⟨[(4, (.bool (bif (bif (Pr x20 x21 x17) then (x22 == x23) else false) then (x24 == x25) else false)))], [], []⟩ [(Spec Try.prog 12 [(.agg (Az a_g))] [] (AV.list 2 Bx (default : At) x19 (.own 20000)) [(20000, .tok 2 38 x19.length)]), (Spec Try.prog 27 [(AV.list 2 Bx (default : At) x19 .none), (AV.list 2 Bx (default : At) x8 .none)] [] (.bool x20) []), ((x20 == true) = true → (x20 == true) = true), ((x20 == true) = true → (x20 == true) = true), ((x20 == true) = true → (Spec Try.prog 19 [(.agg (Az a_g)), (Jw a_p1)] [] (.int .i64 x21) [])), ((x20 == true) = true → (x20 == true) = true), ((x20 == true) = true → (x20 == true) = true), (x20 = true → (x20 == true) = true), (((Pr x20 x21 x17) == true) = true → ((Pr x20 x21 x17) == true) = true), (((Pr x20 x21 x17) == true) = true → (Spec Try.prog 13 [(.agg (Az a_g))] [] (.bool x22) [])), (((Pr x20 x21 x17) == true) = true → ((Pr x20 x21 x17) == true) = true), (((Pr x20 x21 x17) == true) = true → (Spec Try.prog 28 [(.agg (Az a_g))] [] (.bool x23) [])), (((Pr x20 x21 x17) == true) = true → ((Pr x20 x21 x17) == true) = true), (((Pr x20 x21 x17) == true) = true → ((Pr x20 x21 x17) == true) = true), ((Pr x20 x21 x17) = true → ((Pr x20 x21 x17) == true) = true), ((Vw x20 x21 x17 x22 x23) = true → (Vw x20 x21 x17 x22 x23) = true), ((Vw x20 x21 x17 x22 x23) = true → (Spec Try.prog 16 [(.agg (Az a_g))] [] (.bool x24) [])), ((Vw x20 x21 x17 x22 x23) = true → (Vw x20 x21 x17 x22 x23) = true), ((Vw x20 x21 x17 x22 x23) = true → (Spec Try.prog 29 [(.agg (Az a_g))] [] (.bool x25) [])), ((Vw x20 x21 x17 x22 x23) = true → (Vw x20 x21 x17 x22 x23) = true), ((Vw x20 x21 x17 x22 x23) = true → (Vw x20 x21 x17 x22 x23) = true), ((bif (Pr x20 x21 x17) then (x22 == x23) else false) = true → (Vw x20 x21 x17 x22 x23) = true)] hq ⟨(Oh a_g x19 hx19), (Mn x19 x8 x20 hx20), (fun hg => hg), (fun hg => hg), (fun hg => (Ld a_g a_p1 x21 (Am hg hx21))), (fun hg => hg), (fun hg => hg), gT, (fun hg => hg), (fun hg => (K2 a_g x22 (Am hg hx22))), (fun hg => hg), (fun hg => (Ki a_g x23 (Am hg hx23))), (fun hg => hg), (fun hg => hg), gT, (fun hg => hg), (fun hg => (Jq a_g x24 (Am hg hx24))), (fun hg => hg), (fun hg => (K9 a_g x25 (Am hg hx25))), (fun hg => hg), (fun hg => hg), gT, trivial⟩ ?_; refine Aq ?_; obtain rfl := OI h; exact ⟨.inl rfl, [], by kernel_rfl⟩
      · rintro e st' ⟨rfl, hk⟩; refine A6 ?_; refine Ay ?_; obtain rfl := OI h; exact hk
def Zq (a_succ : List (List (Int))) : AV := (AV.list 1 eLI64 [] a_succ .none)
def Q376 (a_pred : List (List (Int))) : AV := (AV.list 1 eLI64 [] a_pred .none)
def Z6 (x4 : (TGraph × Int)) := (((x4.2 : Int) == (0 : Int)) == true)
def Z3 (a_succ : List (List (Int))) := (decide (((14 : Int) : Int) < (a_succ.length : Int)))
def Yj (a_succ : List (List (Int))) (x2 : Bool) := (bif (Z3 a_succ) then true else (!x2))
def Fc (a_succ : List (List (Int))) (a_pred : List (List (Int))) (a_x : Int) : Option Bool :=
  ((Ex).bind fun x1 => (bif (!x1) then (some false) else ((bif ((decide (((14 : Int) : Int) < (a_succ.length : Int))) == false) then D2 a_succ else some false).bind fun x2 => ((bif ((bif (decide (((14 : Int) : Int) < (a_succ.length : Int))) then true else (!x2)) == false) then D2 a_pred else some false).bind fun x3 => (bif (bif (bif (decide (((14 : Int) : Int) < (a_succ.length : Int))) then true else (!x2)) then true else (!x3)) then (some true) else ((F1 a_succ).bind fun x4 => ((bif (((x4.2 : Int) == (0 : Int)) == true) then Ec x4.1 a_x else some false).bind fun x5 => (bif (bif ((x4.2 : Int) == (0 : Int)) then (!x5) else false) then (some false) else ((Ec (⟨a_succ, a_pred⟩ : TGraph) a_x).bind fun x6 => (some x6))))))))))
theorem ok_locksteplaw10_LoopAll (a_succ : List (List (Int))) (a_pred : List (List (Int))) (a_x : Int) (r : Bool) (h : Fc a_succ a_pred a_x = some r) : Spec Try.prog 3 [(AV.list 1 eLI64 [] a_succ .none), (AV.list 1 eLI64 [] a_pred .none), (.int .i64 a_x)] [] (.bool r) [] := by
  refine Ao (fn := Try.f3) Try.func3 rfl rfl (by kernel_rfl) (fun Γ hn hΓ => ?_); have hq : RgQ Try.prog Γ 42 [] := ⟨hn, mix, hΓ⟩; unfold Fc at h; refine As ⟨[(0, (Zq a_succ)), (1, (Q376 a_pred)), (2, (.int .i64 a_x))], [], []⟩ hq ?_; refine Ad ?_; obtain ⟨x1, hx1, h⟩ := bind_some h; refine B0 [⟨[], [], (.bool x1), [], []⟩] [] ⟨[(0, (Zq a_succ)), (1, (Q376 a_pred)), (2, (.int .i64 a_x)), (10, (.bool (!x1)))], [], []⟩ [(Spec Try.prog 8 [] [] (.bool x1) [])] hq ⟨(L5  x1 hx1), trivial⟩ ?_; refine Aj (!x1) (by kernel_rfl) (fun hb => ?_) (fun hb => ?_)
  · replace h := Am hb h; clear hb; refine As ⟨[(6, (.bool false))], [], []⟩ hq ?_; refine Aq ?_; refine Ay ?_; obtain rfl := OI h; exact ⟨.inl rfl, [], by kernel_rfl⟩
  · replace h := Ar hb h; clear hb; refine Ah ?_; refine Aa ?_; refine Ad ?_; obtain ⟨x2, hx2, h⟩ := bind_some h; obtain ⟨x3, hx3, h⟩ := bind_some h; refine B0 [⟨[], [], (.bool x2), [], []⟩, ⟨[], [], (.bool x3), [], []⟩] [] ⟨[(0, (Zq a_succ)), (1, (Q376 a_pred)), (2, (.int .i64 a_x)), (23, (.bool (bif (Yj a_succ x2) then true else (!x3))))], [], []⟩ [(((Z3 a_succ) == false) = true → ((Z3 a_succ) == false) = true), (((Z3 a_succ) == false) = true → (Spec Try.prog 9 [(Zq a_succ)] [] (.bool x2) [])), (((Z3 a_succ) == false) = true → ((Z3 a_succ) == false) = true), ((Z3 a_succ) = false → ((Z3 a_succ) == false) = true), (((Yj a_succ x2) == false) = true → ((Yj a_succ x2) == false) = true), (((Yj a_succ x2) == false) = true → (Spec Try.prog 9 [(Q376 a_pred)] [] (.bool x3) [])), (((Yj a_succ x2) == false) = true → ((Yj a_succ x2) == false) = true), ((Yj a_succ x2) = false → ((Yj a_succ x2) == false) = true)] hq ⟨(fun hg => hg), (fun hg => (Ic a_succ x2 (Am hg hx2))), (fun hg => hg), gF, (fun hg => hg), (fun hg => (Ic a_pred x3 (Am hg hx3))), (fun hg => hg), gF, trivial⟩ ?_; refine Aj (bif (Yj a_succ x2) then true else (!x3)) (by kernel_rfl) (fun hb => ?_) (fun hb => ?_)
    · replace h := Am hb h; clear hb; refine As ⟨[(6, (.bool true))], [], []⟩ hq ?_; refine Aq ?_; refine Ay ?_; obtain rfl := OI h; exact ⟨.inl rfl, [], by kernel_rfl⟩
    · replace h := Ar hb h; clear hb; refine Ah ?_; refine Aa ?_; obtain ⟨x4, hx4, h⟩ := bind_some h; refine B0 [⟨[], [], (.tuple [(.agg (Az x4.1)), (.int .i64 x4.2)]), [], []⟩] [] ⟨[(0, (Zq a_succ)), (1, (Q376 a_pred)), (2, (.int .i64 a_x)), (7, (.ptr 7 0)), (8, (.int .i64 x4.2))], [(7, .row 26 [(AV.list 1 eLI64 [] x4.1.Succ .none), (AV.list 1 eLI64 [] x4.1.Pred .none)])], []⟩ [(Spec Try.prog 10 [(Zq a_succ)] [] (.tuple [(.agg (Az x4.1)), (.int .i64 x4.2)]) [])] hq ⟨(K6 a_succ x4 hx4), trivial⟩ ?_; refine Ad ?_; obtain ⟨x5, hx5, h⟩ := bind_some h; refine B0 [⟨[], [], (.bool x5), [], []⟩] [] ⟨[(0, (Zq a_succ)), (1, (Q376 a_pred)), (2, (.int .i64 a_x)), (36, (.bool (bif ((x4.2 : Int) == (0 : Int)) then (!x5) else false)))], [], []⟩ [((Z6 x4) = true → (Z6 x4) = true), ((Z6 x4) = true → (Z6 x4) = true), ((Z6 x4) = true → (Spec Try.prog 11 [(.agg (Az x4.1)), (.int .i64 a_x)] [] (.bool x5) [])), ((Z6 x4) = true → (Z6 x4) = true), (((x4.2 : Int) == (0 : Int)) = true → (Z6 x4) = true)] hq ⟨(fun hg => hg), (fun hg => hg), (fun hg => (Ih x4.1 a_x x5 (Am hg hx5))), (fun hg => hg), gT, trivial⟩ ?_; refine Aj (bif ((x4.2 : Int) == (0 : Int)) then (!x5) else false) (by kernel_rfl) (fun hb => ?_) (fun hb => ?_)
      · replace h := Am hb h; clear hb; refine As ⟨[(6, (.bool false))], [], []⟩ hq ?_; refine Aq ?_; refine Ay ?_; obtain rfl := OI h; exact ⟨.inl rfl, [], by kernel_rfl⟩
      · replace h := Ar hb h; clear hb; refine Ah ?_; refine Aa ?_; obtain ⟨x6, hx6, h⟩ := bind_some h; refine B0 [⟨[], [], (.bool x6), [], []⟩] [] ⟨[(6, (.bool x6))], [], []⟩ [(Spec Try.prog 11 [(.agg [(Zq a_succ), (Q376 a_pred)]), (.int .i64 a_x)] [] (.bool x6) [])] hq ⟨(Ih (⟨a_succ, a_pred⟩ : TGraph) a_x x6 hx6), trivial⟩ ?_; refine Aq ?_; obtain rfl := OI h; exact ⟨.inl rfl, [], by kernel_rfl⟩
end
end Go.Proofs.Ytjpacggpipflcaa

namespace Go.Proofs.Ytjpacggpipflcaa
noncomputable section
open Go Go.RowKit
theorem Lh {n : Int} (h : -9223372036854775808 ≤ n) (h' : n < 9223372036854775808) : A9 n = n := by
  show IntKind.i64.wrap n = n
  simp only [IntKind.wrap, IntKind.bits, IntKind.signed]
  simp
  split <;> omega
theorem Ak {α : Type} (l : List α) (i : Nat) (d : α) (h : i < l.length) : l.getD i d = l[i] := by simp [List.getD, h]
end
end Go.Proofs.Ytjpacggpipflcaa

namespace Go.Proofs.Ytjpacggpipflcaa
noncomputable section
open Go Go.RowKit
set_option linter.unusedVariables false
theorem flat_bound {α β : Type} (l : List α) (E : α → List β) (B : Nat) (h : ∀ a ∈ l, (E a).length ≤ B) : (l.map E).flatten.length ≤ l.length * B := by
  induction l with
  | nil => simp
  | cons a l ih =>
    have h1 := h a (by simp); have h2 := ih (fun b hb => h b (by simp [hb])); rw [List.map_cons, List.flatten_cons, List.length_append, List.length_cons, Nat.add_mul]; omega
theorem Ff {α : Type} {l : List α} {i : Nat} {d : α} (h : i < l.length) : l.getD i d ∈ l := by rw [Ak _ _ _ h]; exact List.getElem_mem h
theorem inB_nat {i n : Nat} (h : i < n) : A3 (i : Int) n := ⟨by omega, by exact_mod_cast h⟩
end
end Go.Proofs.Ytjpacggpipflcaa

namespace Go.Proofs.Ytjpacggpipflcaa
noncomputable section
open Go Go.RowKit
set_option linter.unusedVariables false
set_option linter.unusedSimpArgs false
theorem Ck {S X : Type} (f : S → Option (LR S X)) (T : Nat → S) (x : X) : ∀ (n : Nat), (∀ i, i < n → f (T i) = some (.next (T (i + 1)))) → f (T n) = some (.done x) → Au f (T 0) = some x := by
  suffices h : ∀ (k i n : Nat), i + k = n → (∀ j, i ≤ j → j < n → f (T j) = some (.next (T (j + 1)))) → f (T n) = some (.done x) → Au f (T i) = some x from
    fun n h1 h2 => h n 0 n (by omega) (fun j _ hj => h1 j hj) h2
  intro k
  induction k with
  | zero =>
    intro i n hi _ h2
    have hin : n = i := by omega
    subst hin; exact Bb h2
  | succ k ih => intro i n hi h1 h2; rw [B8 (h1 i (Nat.le_refl _) (by omega))]; exact ih (i + 1) n (by omega) (fun j hj hj' => h1 j (by omega) hj') h2
theorem V7 {S X : Type} (f : S → Option (LR S X)) (T : Nat → S) : ∀ (n : Nat), (∀ i, i < n → f (T i) = some (.next (T (i + 1)))) → Au f (T 0) = Au f (T n) := by
  intro n
  induction n with
  | zero => intro _; rfl
  | succ n ih => intro h; rw [ih (fun i hi => h i (by omega)), B8 (h n (by omega))]
theorem Fl {S X : Type} (f : S → Option (LR S X)) (T : Nat → S) (p : Nat → Bool) (yes no : X) (n : Nat) (hn : ∀ i, i < n → p i = true → f (T i) = some (.next (T (i + 1)))) (hf : ∀ i, i < n → p i = false → f (T i) = some (.done no))
    (he : f (T n) = some (.done yes)) : Au f (T 0) = some (bif (List.range n).all p then yes else no) := by
  cases hall : (List.range n).all p with
  | true =>
    rw [cond_true]; exact Ck f T yes n (fun i hi => hn i hi (List.all_eq_true.1 hall i (List.mem_range.2 hi))) he
  | false =>
    rw [cond_false]
    have hex : ∃ i, i < n ∧ p i = false := by
      have : ¬ ∀ i ∈ List.range n, p i = true := fun h => by rw [List.all_eq_true.2 h] at hall; cases hall
      simpa using this
    let P : Nat → Prop := fun m => m < n ∧ p m = false
    obtain ⟨m, hm⟩ := hex
    have key : ∀ m, m < n → p m = false → ∃ k, k < n ∧ p k = false ∧ ∀ j, j < k → p j = true := by
      intro m
      induction m using Nat.strongRecOn with
      | ind m ih =>
        intro h1 h2
        by_cases h : ∃ j, j < m ∧ p j = false
        · obtain ⟨j, hj, hpj⟩ := h; exact ih j hj (by omega) hpj
        · refine ⟨m, h1, h2, fun j hj => ?_⟩
          cases hpj : p j with
          | true => rfl
          | false => exact (h ⟨j, hj, hpj⟩).elim
    obtain ⟨k, hk, hpk, hlt⟩ := key m hm.1 hm.2; rw [V7 f T k (fun i hi => hn i (by omega) (hlt i hi))]; exact Bb (hf k hk hpk)
theorem all_range {n : Nat} {p : Nat → Bool} : (List.range n).all p = true ↔ ∀ i, i < n → p i = true := by
  rw [List.all_eq_true]; exact ⟨fun h i hi => h i (List.mem_range.2 hi), fun h i hi => h i (List.mem_range.1 hi)⟩
theorem Ap (i : Nat) : ((i : Int)).toNat = i := Int.toNat_natCast i
theorem w1 {i : Nat} (h : i < 4611686018427387904) : A9 ((i : Int) + 1) = ((i + 1 : Nat) : Int) := by rw [Lh (by omega) (by omega)]; omega
theorem Ca {i n : Nat} (h : i < n) : decide (((i : Nat) : Int) < ((n : Nat) : Int)) = true := by simpa using h
theorem Di {n : Nat} : decide (((n : Nat) : Int) < ((n : Nat) : Int)) = false := by simp
theorem De {i n : Nat} (h : i < n) : A3 ((i : Nat) : Int) n := inB_nat h
theorem inbz {x : Int} {n : Nat} (h0 : 0 ≤ x) (h1 : x < n) : A3 x n := ⟨h0, h1⟩
def okAt (n : Nat) (l : List Int) (i : Nat) : Bool := decide ((if i = 0 then (-1 : Int) else l.getD (i - 1) 0) < l.getD i 0) && (decide (0 ≤ l.getD i 0) && decide (l.getD i 0 < n))
def okL (n : Nat) (l : List Int) : Bool := (List.range l.length).all (okAt n l)
def Fd (L : List (List Int)) : Bool := decide (1 ≤ L.length) && decide (L.length ≤ 64) && (List.range L.length).all fun i => okL L.length (L.getD i [])
def Kt (L : List (List Int)) (k i : Nat) : Bool := (L.getD k []).contains (i : Int)
def Ey (L : List (List Int)) (m i : Nat) : List Int := ((List.range m).filter fun k => Kt L k i).map Int.ofNat
def Eh (L : List (List Int)) : List (List Int) := (List.range L.length).map (Ey L L.length)
theorem Ot (a n : Int) : Fv a n = some (decide (0 ≤ a) && decide (a < n)) := by
  unfold Fv
  cases decide ((0 : Int) ≤ a) <;> rfl
theorem m_isCount (n : Nat) : Gk (n : Int) = some (decide (1 ≤ n) && decide (n ≤ 64)) := by
  unfold Gk
  have h1 : decide ((1 : Int) ≤ (n : Int)) = decide (1 ≤ n) := by apply decide_eq_decide.2; omega
  have h2 : decide ((n : Int) ≤ (64 : Int)) = decide (n ≤ 64) := by apply decide_eq_decide.2; omega
  rw [h1, h2]
  cases decide (1 ≤ n) <;> rfl
theorem Ts (L : List (List Int)) (i : Nat) (hl : (L.getD i []).length < 4611686018427387904) :
    Au (Cy L (i : Int)) ((-1 : Int), (0 : Int)) = some (bif okL L.length (L.getD i []) then .inl () else .inr false) := by
  refine Fl (Cy L (i : Int)) (fun j => ((if j = 0 then (-1 : Int) else (L.getD i []).getD (j - 1) 0), ((j : Nat) : Int))) (okAt L.length (L.getD i [])) (.inl ()) (.inr false) _ (fun j hj hp => ?_) (fun j hj hp => ?_) ?_
  · unfold okAt at hp; simp only [Bool.and_eq_true, decide_eq_true_eq] at hp; obtain ⟨h1, h2, h3⟩ := hp
    show Cy L (i : Int) (_, _) = _
    unfold Cy; simp only [Ap, Ca hj, cond_true, Ot]; rw [Ac (De hj)]
    have e1 : decide ((L.getD i []).getD j 0 ≤ (if j = 0 then (-1 : Int) else (L.getD i []).getD (j - 1) 0)) = false := by simpa using h1
    simp only [e1, decide_eq_true h2, decide_eq_true h3, Bool.and_self, beq_self_eq_true, cond_true, cond_false, Option.bind_some, Bool.not_true]; rw [w1 (show j < 4611686018427387904 by omega)]
    simp
  · show Cy L (i : Int) (_, _) = _
    unfold Cy; simp only [Ap, Ca hj, cond_true, Ot]; rw [Ac (De hj)]
    cases h1 : decide ((L.getD i []).getD j 0 ≤ (if j = 0 then (-1 : Int) else (L.getD i []).getD (j - 1) 0)) with
    | true => simp only [cond_true, show ((true == false) = false) from rfl, cond_false, Option.bind_some]
    | false =>
      have h1' : decide ((if j = 0 then (-1 : Int) else (L.getD i []).getD (j - 1) 0) < (L.getD i []).getD j 0) = true := by simpa using h1
      unfold okAt at hp; rw [h1', Bool.true_and] at hp; simp only [beq_self_eq_true, cond_true, cond_false, Option.bind_some, hp, Bool.not_false]
  · show Cy L (i : Int) (_, _) = _
    unfold Cy; simp only [Ap, Di, cond_false]
def Fits (L : List (List Int)) : Prop := L.length < 4611686018427387904 ∧ ∀ l ∈ L, l.length < 4611686018427387904
theorem Fits.at {L : List (List Int)} (h : Fits L) (i : Nat) : (L.getD i []).length < 4611686018427387904 := by
  by_cases hi : i < L.length
  · exact h.2 _ (Ff hi)
  · rw [List.getD_eq_getElem?_getD, List.getElem?_eq_none (by omega)]; simp
theorem W2 (L : List (List Int)) (h : Fits L) : Fu L = some (Fd L) := by
  unfold Fu; rw [m_isCount, Option.bind_some]; unfold Fd
  cases hc : (decide (1 ≤ L.length) && decide (L.length ≤ 64)) with
  | false => rfl
  | true =>
    simp only [Bool.not_true, cond_false, Bool.true_and]; have := Fl (Cz L) (fun j => ((j : Nat) : Int)) (fun i => okL L.length (L.getD i [])) (.inl ()) (.inr false) L.length (fun j hj hp => ?_) (fun j hj hp => ?_) ?_
    · rw [show Au (Cz L) (0 : Int) = _ from this]
      cases (List.range L.length).all fun i => okL L.length (L.getD i []) <;> rfl
    · show Cz L (j : Int) = _
      unfold Cz; simp only [Ca hj, cond_true]; rw [Ac (De hj), Ts L j (h.at j), hp]; simp only [cond_true, Option.bind_some, w1 (show j < 4611686018427387904 by have := h.1; omega)]
    · show Cz L (j : Int) = _
      unfold Cz; simp only [Ca hj, cond_true]; rw [Ac (De hj), Ts L j (h.at j), hp]
      rfl
    · show Cz L _ = _
      unfold Cz; simp only [Di, cond_false]
end
end Go.Proofs.Ytjpacggpipflcaa

namespace Go.Proofs.Ytjpacggpipflcaa
noncomputable section
open Go Go.RowKit
set_option linter.unusedVariables false
set_option linter.unusedSimpArgs false
theorem Hq {α : Type} {n i : Nat} {g : Nat → α} {d : α} (h : i < n) : ((List.range n).map g).getD i d = g i := by simp [List.getD, h]
theorem K7 {α : Type} {n i : Nat} {g : Nat → α} {x : α} : ((List.range n).map g).set i x = (List.range n).map fun j => if j = i then x else g j := by
  apply List.ext_getElem?
  intro j; rw [List.getElem?_set]
  by_cases hj : j < n
  · by_cases hij : i = j
    · subst hij; simp [hj]
    · simp [hij, hj, Ne.symm hij]
  · simp [hj]; intro h; omega
theorem Dn {α : Type} {n : Nat} {g h : Nat → α} (H : ∀ i, i < n → g i = h i) : (List.range n).map g = (List.range n).map h := List.map_congr_left fun i hi => H i (List.mem_range.1 hi)
theorem mayS_iff {L : List (List Int)} : Fd L = true ↔ 1 ≤ L.length ∧ L.length ≤ 64 ∧ ∀ i, i < L.length → okL L.length (L.getD i []) = true := by
  unfold Fd; rw [Bool.and_eq_true, Bool.and_eq_true, all_range]; simp only [decide_eq_true_eq]; exact ⟨fun ⟨⟨a, b⟩, c⟩ => ⟨a, b, c⟩, fun ⟨a, b, c⟩ => ⟨⟨a, b⟩, c⟩⟩
theorem okL_iff {n : Nat} {l : List Int} : okL n l = true ↔ ∀ i, i < l.length → (0 ≤ l.getD i 0 ∧ l.getD i 0 < n) ∧ (0 < i → l.getD (i - 1) 0 < l.getD i 0) := by
  unfold okL; rw [all_range]; unfold okAt; simp only [Bool.and_eq_true, decide_eq_true_eq]
  constructor
  · intro h i hi; obtain ⟨h1, h2, h3⟩ := h i hi; refine ⟨⟨h2, h3⟩, fun hp => ?_⟩; rwa [if_neg (by omega)] at h1
  · intro h i hi; obtain ⟨⟨h2, h3⟩, h1⟩ := h i hi; refine ⟨?_, h2, h3⟩
    by_cases hz : i = 0
    · rw [if_pos hz]; omega
    · rw [if_neg hz]; exact h1 (by omega)
section
variable {n : Nat} {l : List Int} (h : okL n l = true)
include h
theorem Py {i : Nat} (hi : i < l.length) : 0 ≤ l.getD i 0 ∧ l.getD i 0 < n := (okL_iff.1 h i hi).1
theorem okL_lt {i j : Nat} (hij : i < j) (hj : j < l.length) : l.getD i 0 < l.getD j 0 := by
  induction j with
  | zero => omega
  | succ j ih =>
    have h1 := (okL_iff.1 h (j + 1) hj).2 (by omega); rw [show j + 1 - 1 = j by omega] at h1
    by_cases he : i = j
    · rw [he]; exact h1
    · exact Int.lt_trans (ih (by omega) (by omega)) h1
theorem okL_ge {i : Nat} (hi : i < l.length) : (i : Int) ≤ l.getD i 0 := by
  induction i with
  | zero => exact (Py h hi).1
  | succ i ih =>
    have := okL_lt h (show i < i + 1 by omega) hi; have := ih (by omega); omega
theorem H6 : l.length ≤ n := by
  by_cases hz : l.length = 0
  · omega
  · have h1 := okL_ge h (show l.length - 1 < l.length by omega); have h2 := (Py h (show l.length - 1 < l.length by omega)).2; omega
theorem Ju {x : Int} (hx : x ∈ l) : 0 ≤ x ∧ x < n := by
  obtain ⟨i, hi, rfl⟩ := List.getElem_of_mem hx; have := Py h hi; rwa [Ak _ _ _ hi] at this
theorem Z1 : l.Pairwise (· < ·) := by
  rw [List.pairwise_iff_getElem]; intro i j hi hj hij; have := okL_lt h hij hj; rwa [Ak _ _ _ hi, Ak _ _ _ hj] at this
end
theorem okL_of {n : Nat} {l : List Int} (h1 : ∀ x ∈ l, 0 ≤ x ∧ x < n) (h2 : l.Pairwise (· < ·)) : okL n l = true := by
  rw [okL_iff]; intro i hi; rw [Ak _ _ _ hi]; refine ⟨h1 _ (List.getElem_mem hi), fun hp => ?_⟩; rw [Ak _ _ _ (show i - 1 < l.length by omega)]; exact (List.pairwise_iff_getElem.1 h2) _ _ _ _ (by omega)
theorem J4 {L : List (List Int)} (h : Fd L = true) : L.length ≤ 64 ∧ ∀ l ∈ L, l.length ≤ 64 := by
  obtain ⟨h1, h2, h3⟩ := mayS_iff.1 h; refine ⟨h2, fun l hl => ?_⟩; obtain ⟨i, hi, rfl⟩ := List.getElem_of_mem hl; have := H6 (h3 i hi); rw [Ak _ _ _ hi] at this; omega
theorem fits_of {L : List (List Int)} (h : L.length ≤ 1000 ∧ ∀ l ∈ L, l.length ≤ 1000) : Fits L := ⟨by omega, fun l hl => by have := h.2 l hl; omega⟩
theorem m_clone (l : List Int) (h : l.length ≤ room) : Ek l = some l := by
  unfold Ek; rw [Ac (by simpa using h)]
  simp
theorem m_copied (L : List (List Int)) (h : L.length ≤ 1000 ∧ ∀ l ∈ L, l.length ≤ 1000) : G1 L = some L := by
  have hroom : (1000 : Nat) ≤ room := by decide
  unfold G1; rw [Ac ⟨by omega, Int.le_refl _, by omega⟩, Ap]; have : Au (Dx L) ((0 : Int), (List.range L.length).map fun i => if i < 0 then L.getD i [] else []) = some L := Ck (Dx L) (fun j => (((j : Nat) : Int), (List.range L.length).map fun i => if i < j then L.getD i [] else [])) L L.length (fun j hj => ?_) ?_
  · have e0 : (List.replicate L.length ([] : List Int)) = (List.range L.length).map fun i => if i < 0 then L.getD i [] else [] := by
      apply List.ext_getElem?
      intro i
      by_cases hi : i < L.length <;> simp [hi, List.getElem?_replicate]
    rw [e0, this]; rfl
  · show Dx L (_, _) = _
    unfold Dx; simp only [Ap, Ca hj, cond_true]; rw [Ac (De hj), m_clone _ (by have := h.2 _ (Ff (d := []) hj); omega), Option.bind_some, Ac (De (by simpa using hj)), K7, w1 (by omega)]
    congr 3
    apply Dn
    intro i hi
    by_cases h1 : i = j
    · subst h1; simp
    · by_cases h2 : i < j
      · simp [h1, h2, show i < j + 1 by omega]
      · simp [h1, h2, show ¬ i < j + 1 by omega]
  · show Dx L (_, _) = _
    unfold Dx; simp only [Di, cond_false]
    congr 2
    apply List.ext_getElem?
    intro i
    by_cases hi : i < L.length
    · simp [hi]
    · simp [hi]
theorem N9 (L : List (List Int)) (k i : Nat) : Ey L (k + 1) i = Ey L k i ++ (if Kt L k i = true then [(k : Int)] else []) := by
  unfold Ey; rw [List.range_succ, List.filter_append, List.map_append]
  congr 1
  cases hg : Kt L k i <;> simp [hg]
theorem Ka (L : List (List Int)) (k i : Nat) : (Ey L k i).length ≤ k := by
  unfold Ey; rw [List.length_map]; have := List.length_filter_le (fun k => Kt L k i) (List.range k)
  simpa using this
theorem Ri {l : List Int} {j : Nat} (hj : j < l.length) : l.take (j + 1) = l.take j ++ [l.getD j 0] := by
  rw [Ak _ _ _ hj, List.take_succ_eq_append_getElem hj]
def La (L : List (List Int)) (k j i : Nat) : Bool := ((L.getD k []).take j).contains (i : Int)
def Gv (L : List (List Int)) (k j : Nat) : List (List Int) := (List.range L.length).map fun i => Ey L k i ++ (if La L k j i = true then [(k : Int)] else [])
theorem comers_step (L : List (List Int)) (h : Fd L = true) (k j : Nat) (hk : k < L.length) (hj : j < (L.getD k []).length) :
    (Gv L k j).set ((L.getD k []).getD j 0).toNat ((Gv L k j).getD ((L.getD k []).getD j 0).toNat [] ++ [(k : Int)]) = Gv L k (j + 1) := by
  obtain ⟨h1, h2, h3⟩ := mayS_iff.1 h; have hok := h3 k hk; obtain ⟨a0, a1⟩ := Py hok hj; unfold Gv; rw [Hq (by omega), K7]
  apply Dn
  intro i hi
  have hnot : La L k j ((L.getD k []).getD j 0).toNat = false := by
    unfold La; rw [Int.toNat_of_nonneg a0]
    cases hc : ((L.getD k []).take j).contains ((L.getD k []).getD j 0) with
    | false => rfl
    | true =>
      rw [List.contains_iff_mem] at hc; obtain ⟨m, hm, he⟩ := List.getElem_of_mem hc
      have hm' : m < j := by simp at hm; omega
      rw [List.getElem_take] at he; have := okL_lt hok hm' hj; rw [Ak _ _ _ (show m < (L.getD k []).length by omega), he] at this; omega
  by_cases hi2 : i = ((L.getD k []).getD j 0).toNat
  · rw [if_pos hi2, hnot]
    have : La L k (j + 1) i = true := by
      unfold La; rw [Ri hj, List.contains_iff_mem, hi2, Int.toNat_of_nonneg a0]
      simp
    rw [this, hi2]
    simp
  · rw [if_neg hi2]
    have : La L k (j + 1) i = La L k j i := by
      unfold La; rw [Ri hj, Bool.eq_iff_iff, List.contains_iff_mem, List.contains_iff_mem, List.mem_append]
      constructor
      · rintro (hm | hm)
        · exact hm
        · simp only [List.mem_singleton] at hm; exact (hi2 (by omega)).elim
      · exact .inl
    rw [this]
theorem m_comers (L : List (List Int)) (h : Fd L = true) : Ga L = some (Eh L) := by
  obtain ⟨h1, h2, h3⟩ := mayS_iff.1 h
  have hroom : (1000 : Nat) ≤ room := by decide
  unfold Ga; rw [Ac ⟨by omega, Int.le_refl _, by omega⟩, Ap]
  have inner : ∀ k, k < L.length → Au (Dw L (k : Int)) ((0 : Int), Gv L k 0) = some (Gv L k (L.getD k []).length) := fun k hk => by
    have hok := h3 k hk; refine Ck (Dw L (k : Int)) (fun j => (((j : Nat) : Int), Gv L k j)) (Gv L k (L.getD k []).length) (L.getD k []).length (fun j hj => ?_) ?_
    · obtain ⟨a0, a1⟩ := Py hok hj
      have hlen : (Gv L k j).length = L.length := by simp [Gv]
      have hl64 := H6 hok
      show Dw L (k : Int) (_, _) = _
      unfold Dw; simp only [Ap, Ca hj, cond_true]; have hb : A3 ((L.getD k []).getD j 0) (Gv L k j).length := ⟨a0, by rw [hlen]; exact a1⟩
      have hrow : ((Gv L k j).getD ((L.getD k []).getD j 0).toNat []).length ≤ k + 1 := by
        unfold Gv; rw [Hq (by omega), List.length_append]; have := Ka L k ((L.getD k []).getD j 0).toNat
        split
        · rw [List.length_singleton]; omega
        · rw [List.length_nil]; omega
      rw [Ac (De hj), Ac hb, Ac hb, Ac (by simp only [List.length_singleton]; omega), Ac hb, comers_step L h k j hk hj, w1 (by omega)]
    · show Dw L (k : Int) (_, _) = _
      unfold Dw; simp only [Ap, Di, cond_false]
  have r0 : ∀ k, Gv L k 0 = (List.range L.length).map (Ey L k) := fun k => by
    unfold Gv
    apply Dn
    intro i _; simp [La]
  have r1 : ∀ k, Gv L k (L.getD k []).length = (List.range L.length).map (Ey L (k + 1)) := fun k => by
    unfold Gv
    apply Dn
    intro i _; rw [N9]; unfold La Kt; rw [List.take_length]
  have : Au (D0 L) ((0 : Int), (List.range L.length).map (Ey L 0)) = some (Eh L) := Ck (D0 L) (fun k => (((k : Nat) : Int), (List.range L.length).map (Ey L k))) (Eh L) L.length (fun k hk => ?_) ?_
  · have e0 : (List.replicate L.length ([] : List Int)) = (List.range L.length).map (Ey L 0) := by
      apply List.ext_getElem?
      intro i
      by_cases hi : i < L.length <;> simp [hi, List.getElem?_replicate, Ey]
    rw [e0, this]; rfl
  · show D0 L (_, _) = _
    unfold D0; simp only [Ca hk, cond_true]; rw [Ac (De hk), ← r0, inner k hk, r1, w1 (by omega)]
    rfl
  · show D0 L (_, _) = _
    unfold D0; simp only [Di, cond_false]
    rfl
end
end Go.Proofs.Ytjpacggpipflcaa

namespace Go.Proofs.Ytjpacggpipflcaa
noncomputable section
open Go Go.RowKit
set_option linter.unusedVariables false
set_option linter.unusedSimpArgs false
theorem Ks {α : Type} [DecidableEq α] {a b : List α} {d : α} (h : a.length = b.length) : ((List.range a.length).all fun i => decide (a.getD i d = b.getD i d)) = decide (a = b) := by
  rw [Bool.eq_iff_iff, all_range, decide_eq_true_eq]
  constructor
  · intro hall
    apply List.ext_getElem h
    intro i h1 h2; have := of_decide_eq_true (hall i h1); rwa [Ak _ _ _ h1, Ak _ _ _ h2] at this
  · rintro rfl i _
    simp
theorem Qe {a b : Nat} : (((a : Nat) : Int) != (b : Int)) = decide (a ≠ b) := by
  rw [Bool.eq_iff_iff, bne_iff_ne, decide_eq_true_eq]; omega
theorem Yp {a b : Int} : (a != b) = !decide (a = b) := by
  rw [Bool.eq_iff_iff]
  simp
theorem m_equal (a b : List Int) (hb : b.length < 4611686018427387904) : En a b = some (decide (a = b)) := by
  unfold En; rw [Qe]
  by_cases hl : a.length = b.length
  · rw [decide_eq_false (by simpa using hl), cond_false]; have : Au (Bg a b) (0 : Int) = _ := Fl (Bg a b) (fun j => ((j : Nat) : Int)) (fun i => decide (a.getD i 0 = b.getD i 0)) (.inl ()) (.inr false) a.length (fun j hj hp => ?_) (fun j hj hp => ?_) ?_
    · rw [this, Ks hl]
      cases decide (a = b) <;> rfl
    · show Bg a b (j : Int) = _
      unfold Bg; simp only [Ap, Ca hj, cond_true]; rw [Ac (De hj), Ac (De (by omega)), Yp, hp, w1 (by omega)]
      rfl
    · show Bg a b (j : Int) = _
      unfold Bg; simp only [Ap, Ca hj, cond_true]; rw [Ac (De hj), Ac (De (by omega)), Yp, hp]
      rfl
    · show Bg a b _ = _
      unfold Bg; simp only [Di, cond_false]
  · rw [decide_eq_true (by simpa using hl), cond_true, decide_eq_false (fun h => hl (by rw [h]))]
theorem Xu (a b : List Int) (ha : a.length < 4611686018427387904) : Bo a b = some (decide (a = b)) := by
  unfold Bo; rw [Qe]
  by_cases hl : a.length = b.length
  · rw [decide_eq_false (by simpa using hl), cond_false]; have : Au (Bp a b) (0 : Int) = _ := Fl (Bp a b) (fun j => ((j : Nat) : Int)) (fun i => decide (a.getD i 0 = b.getD i 0)) (.inl ()) (.inr false) a.length (fun j hj hp => ?_) (fun j hj hp => ?_) ?_
    · rw [this, Ks hl]
      cases decide (a = b) <;> rfl
    · show Bp a b (j : Int) = _
      unfold Bp; simp only [Ap, Ca hj, cond_true]; rw [Ac (De hj), Ac (De (by omega)), Yp, hp, w1 (by omega)]
      rfl
    · show Bp a b (j : Int) = _
      unfold Bp; simp only [Ap, Ca hj, cond_true]; rw [Ac (De hj), Ac (De (by omega)), Yp, hp]
      rfl
    · show Bp a b _ = _
      unfold Bp; simp only [Di, cond_false]
  · rw [decide_eq_true (by simpa using hl), cond_true, decide_eq_false (fun h => hl (by rw [h]))]
theorem Ze (a b : List (List Int)) (hb : Fits b) : Cj a b = some (decide (a = b)) := by
  unfold Cj; rw [Qe]
  by_cases hl : a.length = b.length
  · rw [decide_eq_false (by simpa using hl), cond_false]; have hb1 := hb.1; have : Au (A0 a b) (0 : Int) = _ := Fl (A0 a b) (fun j => ((j : Nat) : Int)) (fun i => decide (a.getD i [] = b.getD i [])) (.inl ()) (.inr false) a.length (fun j hj hp => ?_) (fun j hj hp => ?_) ?_
    · rw [this, Ks hl]
      cases decide (a = b) <;> rfl
    · show A0 a b (j : Int) = _
      unfold A0; simp only [Ap, Ca hj, cond_true]; rw [Ac (De hj), Ac (De (by omega)), m_equal _ _ (hb.at j), hp, w1 (by omega)]
      rfl
    · show A0 a b (j : Int) = _
      unfold A0; simp only [Ap, Ca hj, cond_true]; rw [Ac (De hj), Ac (De (by omega)), m_equal _ _ (hb.at j), hp]
      rfl
    · show A0 a b _ = _
      unfold A0; simp only [Di, cond_false]
  · rw [decide_eq_true (by simpa using hl), cond_true, decide_eq_false (fun h => hl (by rw [h]))]
theorem L2 (L : List (List Int)) : (Eh L).length = L.length := by simp [Eh]
theorem Rl {L : List (List Int)} {i : Nat} (hi : i < L.length) : (Eh L).getD i [] = Ey L L.length i := by unfold Eh; rw [Hq hi]
theorem Qh {L : List (List Int)} (h : Fd L = true) : (Eh L).length ≤ 64 ∧ ∀ l ∈ Eh L, l.length ≤ 64 := by
  obtain ⟨h1, _⟩ := J4 h; refine ⟨by rw [L2]; exact h1, fun l hl => ?_⟩; obtain ⟨i, hi, rfl⟩ := List.mem_map.1 hl; have := Ka L L.length i; omega
theorem Il {L : List (List Int)} (h : L.length ≤ 64 ∧ ∀ l ∈ L, l.length ≤ 64) : Fits L := fits_of ⟨by omega, fun l hl => by have := h.2 l hl; omega⟩
theorem small_k {L : List (List Int)} (h : L.length ≤ 64 ∧ ∀ l ∈ L, l.length ≤ 64) : L.length ≤ 1000 ∧ ∀ l ∈ L, l.length ≤ 1000 := ⟨by omega, fun l hl => by have := h.2 l hl; omega⟩
def H0 (g : TGraph) : Bool := Fd g.Succ && decide (g.Pred = Eh g.Succ)
theorem m_may (g : TGraph) (h : Fits g.Succ) : Hx g = some (H0 g) := by
  unfold Hx H0; rw [W2 _ h, Option.bind_some]
  cases hm : Fd g.Succ with
  | false => rfl
  | true =>
    simp only [beq_self_eq_true, cond_true, m_comers _ hm, Option.bind_some, Ze _ _ (Il (Qh hm)), Bool.true_and]
def Fp (L : List (List Int)) : TGraph := ⟨L, Eh L⟩
def g0 : TGraph := ⟨[], []⟩
theorem m_make (L : List (List Int)) (h : Fits L) : F1 L = some (bif Fd L then (Fp L, 0) else (g0, 5)) := by
  unfold F1; rw [W2 _ h, Option.bind_some]
  cases hm : Fd L with
  | false => rfl
  | true =>
    simp only [Bool.not_true, cond_false, m_copied _ (small_k (J4 hm)), m_comers _ hm, Option.bind_some]
    rfl
theorem Ub {L : List (List Int)} (h : Fd L = true) : H0 (Fp L) = true := by simp [H0, Fp, h]
theorem m_has (l : List Int) (x : Int) (h : l.length < 4611686018427387904) : Df l x = some (l.contains x) := by
  unfold Df; have : Au (Bv l x) (0 : Int) = _ := Fl (Bv l x) (fun j => ((j : Nat) : Int)) (fun i => !decide (l.getD i 0 = x)) (.inl ()) (.inr true) l.length (fun j hj hp => ?_) (fun j hj hp => ?_) ?_
  · rw [this]
    have e : l.contains x = !((List.range l.length).all fun i => !decide (l.getD i 0 = x)) := by
      rw [Bool.eq_iff_iff, List.contains_iff_mem, Bool.not_eq_true', ← Bool.not_eq_true, all_range]
      constructor
      · intro hx hall; obtain ⟨i, hi, rfl⟩ := List.getElem_of_mem hx; have := hall i hi; rw [Ak _ _ _ hi] at this; simp at this
      · intro hall
        by_cases hx : x ∈ l
        · exact hx
        · refine (hall fun i hi => ?_).elim; rw [Ak _ _ _ hi]; simp only [Bool.not_eq_true', decide_eq_false_iff_not]; rintro rfl; exact hx (List.getElem_mem hi)
    rw [e]
    cases (List.range l.length).all fun i => !decide (l.getD i 0 = x) <;> rfl
  · show Bv l x (j : Int) = _
    unfold Bv; simp only [Ap, Ca hj, cond_true]
    have : (l.getD j 0 == x) = false := by simpa using hp
    rw [Ac (De hj), this, w1 (by omega)]
    rfl
  · show Bv l x (j : Int) = _
    unfold Bv; simp only [Ap, Ca hj, cond_true]
    have : (l.getD j 0 == x) = true := by simpa using hp
    rw [Ac (De hj), this]
    rfl
  · show Bv l x _ = _
    unfold Bv; simp only [Di, cond_false]
theorem Xb {X : Type} (a b : List (List Int)) (f : Int → Option (LR Int (Unit ⊕ Bool))) (ha : Fits a) (hl : a.length = b.length)
    (hn : ∀ i : Nat, i < a.length → f (i : Int) = (Bo (a.getD i []) (b.getD i [])).bind fun x => bif (!x) then some (.done (.inr false)) else some (.next (A9 ((i : Int) + 1)))) (he : f (a.length : Int) = some (.done (.inl ()))) :
    Au f (0 : Int) = some (bif decide (a = b) then .inl () else .inr false) := by
  have ha1 := ha.1; have : Au f (0 : Int) = _ := Fl f (fun j => ((j : Nat) : Int)) (fun i => decide (a.getD i [] = b.getD i [])) (.inl ()) (.inr false) a.length (fun j hj hp => ?_) (fun j hj hp => ?_) he
  · rw [this, Ks hl]
  · rw [hn j hj, Xu _ _ (ha.at j), hp, w1 (by omega)]; rfl
  · rw [hn j hj, Xu _ _ (ha.at j), hp]; rfl
theorem m_same (a b : TGraph) (h1 : Fits a.Succ) (h2 : Fits a.Pred) : E9 a b = some (decide (a = b)) := by
  have e : decide (a = b) = (decide (a.Succ = b.Succ) && decide (a.Pred = b.Pred)) := by
    cases a; cases b
    rw [Bool.eq_iff_iff]
    simp
  rw [e]; unfold E9; rw [Qe, Qe]
  by_cases hs : a.Succ.length = b.Succ.length
  · by_cases hp : a.Pred.length = b.Pred.length
    · rw [decide_eq_false (by simpa using hs), cond_false, decide_eq_false (by simpa using hp), cond_false]
      have s1 := Xb (X := Unit) a.Succ b.Succ (Eb a b) h1 hs (fun i hi => by
        unfold Eb; simp only [Ap, Ca hi, cond_true]
        rw [Ac (De hi), Ac (De (by omega))]) (by
        unfold Eb
        simp only [Di, cond_false])
      have s2 := Xb (X := Unit) a.Pred b.Pred (Ee a b) h2 hp (fun i hi => by
        unfold Ee; simp only [Ap, Ca hi, cond_true]
        rw [Ac (De hi), Ac (De (by omega))]) (by
        unfold Ee
        simp only [Di, cond_false])
      rw [s1]
      cases decide (a.Succ = b.Succ) with
      | false => rfl
      | true =>
        simp only [cond_true, Option.bind_some, Bool.true_and]; rw [s2]
        cases decide (a.Pred = b.Pred) <;> rfl
    · rw [decide_eq_true (show a.Pred.length ≠ b.Pred.length from hp), decide_eq_false (p := a.Pred = b.Pred) (fun h => hp (by rw [h]))]
      cases decide (a.Succ.length ≠ b.Succ.length) <;> simp
  · rw [decide_eq_true (show a.Succ.length ≠ b.Succ.length from hs), decide_eq_false (p := a.Succ = b.Succ) (fun h => hs (by rw [h]))]
    simp
end
end Go.Proofs.Ytjpacggpipflcaa

namespace Go.Proofs.Ytjpacggpipflcaa
noncomputable section
open Go Go.RowKit
set_option linter.unusedVariables false
set_option linter.unusedSimpArgs false
theorem Hp {R : Type} {c : Bool} {q : Prop} [Decidable q] {k : Option R} (h : q) : Bz (c = true → q) k = k := Ac fun _ => h
theorem chk_off {R : Type} {q : Prop} [Decidable q] {k : Option R} : Bz (false = true → q) k = k := Ac (by intro h; cases h)
def badAt (n : Nat) (l : List Int) (j : Nat) : Bool :=
  bif (bif decide (l.getD j 0 < 0) then true else decide ((n : Int) ≤ l.getD j 0)) then true else (bif decide ((0 : Int) < (j : Int)) then decide (l.getD j 0 ≤ l.getD (j - 1) 0) else false)
theorem bad_ok (n : Nat) (l : List Int) (j : Nat) : badAt n l j = !okAt n l j := by
  unfold badAt okAt
  by_cases h0 : l.getD j 0 < 0
  · have h1 : decide (0 ≤ l.getD j 0) = false := by simpa using h0
    rw [decide_eq_true h0, h1]; simp
  · have h1 : decide (0 ≤ l.getD j 0) = true := by simpa using h0
    rw [decide_eq_false h0, h1]
    by_cases h2 : (n : Int) ≤ l.getD j 0
    · have h3 : decide (l.getD j 0 < (n : Int)) = false := by simpa using h2
      rw [decide_eq_true h2, h3]; simp
    · have h3 : decide (l.getD j 0 < (n : Int)) = true := by simpa using h2
      rw [decide_eq_false h2, h3]
      by_cases hj : j = 0
      · subst hj; have h4 : decide ((-1 : Int) < l.getD 0 0) = true := decide_eq_true (by omega); rw [if_pos rfl, h4]; simp
      · rw [if_neg hj, decide_eq_true (show (0 : Int) < (j : Int) by omega)]
        by_cases h5 : l.getD j 0 ≤ l.getD (j - 1) 0
        · rw [decide_eq_true h5, decide_eq_false (show ¬ l.getD (j - 1) 0 < l.getD j 0 by omega)]; rfl
        · rw [decide_eq_false h5, decide_eq_true (show l.getD (j - 1) 0 < l.getD j 0 by omega)]; rfl
theorem Sn (L : List (List Int)) (i : Nat) (hi : i < L.length) (hl : (L.getD i []).length < 4611686018427387904) :
    Au (Bq L (i : Int)) (0 : Int) = some (bif okL L.length (L.getD i []) then .inl () else .inr (g0, 5)) := by
  have hw : ∀ j : Nat, j < (L.getD i []).length → 0 < j → A9 ((j : Int) - 1) = ((j - 1 : Nat) : Int) := fun j hj hp => by rw [Lh (by omega) (by omega)]; omega
  have step : ∀ j, j < (L.getD i []).length → Bq L (i : Int) (j : Int) = bif badAt L.length (L.getD i []) j then some (.done (.inr (g0, 5))) else some (.next (((j + 1 : Nat) : Int))) := fun j hj => by
    unfold Bq; simp only [Ap, Ca hj, cond_true]; rw [Ac (De hi), Ac (De hi), Ac (De hj), Hp (De hi), Hp (De hj), Hp (De hi), Hp (De hj), Hp (De hi), w1 (by omega)]
    by_cases hz : j = 0
    · subst hz
      have : decide ((0 : Int) < ((0 : Nat) : Int)) = false := by decide
      unfold badAt; rw [this]; simp only [cond_false]; rw [show ((false == true) = false) from rfl, Bool.and_false, chk_off]
      rfl
    · rw [hw j hj (by omega), Hp (De (by omega)), Ap]
      rfl
  have := Fl (Bq L (i : Int)) (fun j => ((j : Nat) : Int)) (okAt L.length (L.getD i [])) (.inl ()) (.inr (g0, 5)) (L.getD i []).length (fun j hj hp => ?_) (fun j hj hp => ?_) ?_
  · exact this
  · show Bq L (i : Int) (j : Int) = _
    rw [step j hj, bad_ok, hp]; rfl
  · show Bq L (i : Int) (j : Int) = _
    rw [step j hj, bad_ok, hp]; rfl
  · show Bq L (i : Int) _ = _
    unfold Bq; simp only [Ap, Di, cond_false]; rw [Ac (De hi)]
theorem Ws (L : List (List Int)) (h : Fd L = true) : Au (B6 L) ((0 : Int), List.replicate L.length ([] : List Int)) = some (Eh L) := by
  obtain ⟨h1, h2, h3⟩ := mayS_iff.1 h
  have hroom : (1000 : Nat) ≤ room := by decide
  have hfit := Il (J4 h)
  let R : Nat → Nat → List (List Int) := fun i k => (List.range L.length).map fun j => if j < i then Ey L L.length j else if j = i then Ey L k i else []
  have inner : ∀ i, i < L.length → Au (Cn L (i : Int)) ((0 : Int), R i 0) = some (R i L.length) := fun i hi => by
    refine Ck (Cn L (i : Int)) (fun k => (((k : Nat) : Int), R i k)) (R i L.length) L.length (fun k hk => ?_) ?_
    · show Cn L (i : Int) (_, _) = _
      have hlen : (R i k).length = L.length := by simp [R]
      have hat : (R i k).getD i [] = Ey L k i := by simp only [R]; rw [Hq hi]; simp
      unfold Cn; simp only [Ap, Ca hk, cond_true]; rw [Ac (De hk), m_has _ _ (hfit.at k), Option.bind_some, w1 (by omega)]; have hg : Kt L k i = (L.getD k []).contains (i : Int) := rfl; rw [← hg, hat]
      have hs : (if Kt L k i = true then (R i k).set i (Ey L k i ++ [(k : Int)]) else R i k) = R i (k + 1) := by
        split
        · rename_i hgo
          simp only [R]; rw [K7]
          apply Dn
          intro j hj
          by_cases hji : j = i
          · subst hji; simp [N9, hgo]
          · simp [hji]
        · rename_i hgo
          simp only [R]
          apply Dn
          intro j hj
          by_cases hji : j = i
          · subst hji; simp [N9, hgo]
          · simp [hji]
      rw [← hs]
      cases hgo : Kt L k i with
      | false => rfl
      | true =>
        have := Ka L k i; simp only [cond_true]; rw [Ac (by rw [hlen]; exact De hi), Ac (by rw [hlen]; exact De hi), Ac (by rw [List.length_singleton]; omega), Ac (by rw [hlen]; exact De hi)]
        rfl
    · show Cn L (i : Int) (_, _) = _
      unfold Cn; simp only [Di, cond_false]
  have : Au (B6 L) ((0 : Int), R 0 0) = some (Eh L) := Ck (B6 L) (fun i => (((i : Nat) : Int), R i 0)) (Eh L) L.length (fun i hi => ?_) ?_
  · have e0 : List.replicate L.length ([] : List Int) = R 0 0 := by
      simp only [R]
      apply List.ext_getElem?
      intro j
      by_cases hj : j < L.length <;> simp [hj, List.getElem?_replicate, Ey]
    rw [e0, this]
  · show B6 L (_, _) = _
    unfold B6; simp only [Ca hi, cond_true]; rw [inner i hi, w1 (by omega)]; simp only [Option.bind_some]
    congr 3
    simp only [R]
    apply Dn
    intro j hj
    by_cases h4 : j < i
    · simp [h4, show j < i + 1 by omega]
    · by_cases h5 : j = i
      · subst h5; simp
      · simp [h4, h5, show ¬ j < i + 1 by omega]; intro h6; simp [Ey]
  · show B6 L (_, _) = _
    unfold B6; simp only [Di, cond_false]
    congr 2
    simp only [R, Eh]
    apply Dn
    intro j hj; simp [hj]
theorem Vl (L : List (List Int)) (h : Fits L) : D9 L = some (bif Fd L then (Fp L, 0) else (g0, 5)) := by
  have hroom : (1000 : Nat) ≤ room := by decide
  unfold D9
  have hc : (bif ((L.length : Int) == (0 : Int)) then true else decide ((64 : Int) < (L.length : Int))) = !(decide (1 ≤ L.length) && decide (L.length ≤ 64)) := by
    by_cases h0 : L.length = 0
    · rw [h0]; rfl
    · rw [show ((L.length : Int) == 0) = false by simp only [beq_eq_false_iff_ne]; omega, decide_eq_true (show 1 ≤ L.length by omega)]
      by_cases h1 : L.length ≤ 64
      · rw [decide_eq_true h1, decide_eq_false (show ¬ (64 : Int) < (L.length : Int) by omega)]; rfl
      · rw [decide_eq_false h1, decide_eq_true (show (64 : Int) < (L.length : Int) by omega)]; rfl
  rw [hc]; have hm : Fd L = ((decide (1 ≤ L.length) && decide (L.length ≤ 64)) && (List.range L.length).all fun i => okL L.length (L.getD i [])) := rfl
  cases hb : (decide (1 ≤ L.length) && decide (L.length ≤ 64)) with
  | false => rw [hm, hb]; rfl
  | true =>
    simp only [Bool.not_true, cond_false]; have hb' := hb; simp only [Bool.and_eq_true, decide_eq_true_eq] at hb'; have : Au (Br L) (0 : Int) = _ := Fl (Br L) (fun j => ((j : Nat) : Int)) (fun i => okL L.length (L.getD i [])) (.inl ()) (.inr (g0, 5)) L.length (fun j hj hp => ?_) (fun j hj hp => ?_) ?_
    · rw [this]
      cases hall : (List.range L.length).all fun i => okL L.length (L.getD i []) with
      | false => rw [hm, hb, hall]; rfl
      | true =>
        have hmay : Fd L = true := by rw [hm, hb, hall]; rfl
        rw [hmay]; simp only [cond_true, Option.bind_some]; rw [Ac ⟨by omega, Int.le_refl _, by omega⟩, Ap, Ws L hmay]
        rfl
    · show Br L (j : Int) = _
      unfold Br; simp only [Ca hj, cond_true]; rw [Sn L j hj (h.at j), hp, w1 (by omega)]
      rfl
    · show Br L (j : Int) = _
      unfold Br; simp only [Ca hj, cond_true]; rw [Sn L j hj (h.at j), hp]
      rfl
    · show Br L _ = _
      unfold Br; simp only [Di, cond_false]
theorem Lu {L : List (List Int)} (h : Fd L = true) : Fits (Fp L).Succ ∧ Fits (Fp L).Pred := ⟨Il (J4 h), Il (Qh h)⟩
theorem Oo (g : TGraph) (h : Fits g.Succ) : Dd g = some (H0 g) := by
  unfold Dd H0; rw [Vl _ h, Option.bind_some]
  cases hm : Fd g.Succ with
  | false => rfl
  | true =>
    simp only [cond_true, beq_self_eq_true, Bool.true_and]; rw [m_same _ _ (Lu hm).1 (Lu hm).2]; simp only [Option.bind_some]
    congr 1
    apply decide_eq_decide.2
    cases g with
    | mk s p =>
      simp only [Fp, TGraph.mk.injEq, true_and]; exact eq_comm
def Ry (L : List (List Int)) : Bool := (List.range L.length).all fun i => decide ((L.getD i []).length ≤ 100) && decide (i ≤ 100)
theorem m_small (L : List (List Int)) (hL : L.length < 9223372036854775808) : D2 L = some (Ry L) := by
  unfold D2
  have step : ∀ j : Nat, j < L.length → Bk L (j : Int) = bif (decide ((L.getD j []).length ≤ 100) && decide (j ≤ 100)) then some (.next (((j + 1 : Nat) : Int))) else some (.done (.inr false)) := fun j hj => by
    unfold Bk; simp only [Ap, Ca hj, cond_true]; rw [Ac (De hj)]
    have hw : A9 ((j : Int) + 1) = ((j + 1 : Nat) : Int) := by rw [Lh (by omega) (by omega)]; omega
    rw [hw]
    by_cases h1 : (L.getD j []).length ≤ 100
    · rw [decide_eq_true h1, decide_eq_false (show ¬ (100 : Int) < ((L.getD j []).length : Int) by omega)]
      by_cases h2 : j ≤ 100
      · rw [decide_eq_true h2, decide_eq_false (show ¬ (100 : Int) < (j : Int) by omega)]; rfl
      · rw [decide_eq_false h2, decide_eq_true (show (100 : Int) < (j : Int) by omega)]; rfl
    · rw [decide_eq_false h1, decide_eq_true (show (100 : Int) < ((L.getD j []).length : Int) by omega)]; rfl
  have : Au (Bk L) (0 : Int) = _ := Fl (Bk L) (fun j => ((j : Nat) : Int)) (fun i => decide ((L.getD i []).length ≤ 100) && decide (i ≤ 100)) (.inl ()) (.inr false) L.length (fun j hj hp => ?_) (fun j hj hp => ?_) ?_
  · rw [this]; unfold Ry
    cases (List.range L.length).all fun i => decide ((L.getD i []).length ≤ 100) && decide (i ≤ 100) <;> rfl
  · show Bk L (j : Int) = _
    rw [step j hj, hp]; rfl
  · show Bk L (j : Int) = _
    rw [step j hj, hp]; rfl
  · show Bk L _ = _
    unfold Bk; simp only [Di, cond_false]
theorem R7 {L : List (List Int)} (h : Ry L = true) : Fits L := by
  unfold Ry at h; rw [all_range] at h; simp only [Bool.and_eq_true, decide_eq_true_eq] at h; refine fits_of ⟨?_, fun l hl => ?_⟩
  · by_cases h0 : L.length = 0
    · omega
    · have := (h (L.length - 1) (by omega)).2; omega
  · obtain ⟨i, hi, rfl⟩ := List.getElem_of_mem hl; have := (h i hi).1; rw [Ak _ _ _ hi] at this; omega
end
end Go.Proofs.Ytjpacggpipflcaa

namespace Go.Proofs.Ytjpacggpipflcaa
noncomputable section
open Go Go.RowKit
set_option linter.unusedVariables false
set_option linter.unusedSimpArgs false
def upd (s : Nat → Bool) (y : Nat) : Nat → Bool := fun z => decide (z = y) || s z
theorem upd_true {s : Nat → Bool} {y z : Nat} : upd s y z = true ↔ z = y ∨ s z = true := by simp [upd]
theorem upd_false {s : Nat → Bool} {y z : Nat} : upd s y z = false ↔ z ≠ y ∧ s z = false := by simp [upd]
inductive VL (S : Nat → List Nat) : (Nat → Bool) → List Nat → (Nat → Bool) → List Nat → Prop
  | nil (s : Nat → Bool) : VL S s [] s []
  | skip {s s' : Nat → Bool} {y : Nat} {l o : List Nat} (h : s y = true) (t : VL S s l s' o) : VL S s (y :: l) s' o
  | step {s s1 s2 : Nat → Bool} {y : Nat} {l o1 o2 : List Nat} (h : s y = false) (a : VL S (upd s y) (S y) s1 o1) (b : VL S s1 l s2 o2) : VL S s (y :: l) s2 (o1 ++ y :: o2)
inductive Rch (S : Nat → List Nat) : Nat → Nat → Prop
  | refl (x : Nat) : Rch S x x
  | head {x y z : Nat} (h : y ∈ S x) (t : Rch S y z) : Rch S x z
theorem Rch.tail {S : Nat → List Nat} {x y z : Nat} (h : Rch S x y) (hz : z ∈ S y) : Rch S x z := by
  induction h with
  | refl x => exact .head hz (.refl _)
  | head h _ ih => exact .head h (ih hz)
theorem Rch.trans {S : Nat → List Nat} {x y z : Nat} (h : Rch S x y) (k : Rch S y z) : Rch S x z := by
  induction h with
  | refl x => exact k
  | head h _ ih => exact .head h (ih k)
variable {S : Nat → List Nat} {s s' : Nat → Bool} {l o : List Nat}
theorem VL.seen (h : VL S s l s' o) (z : Nat) : s' z = true ↔ s z = true ∨ z ∈ o := by
  induction h with
  | nil s => simp
  | skip h _ ih => exact ih
  | @step s s1 s2 y l o1 o2 h a b iha ihb =>
    rw [ihb, iha, upd_true]; simp only [List.mem_append, List.mem_cons]
    constructor
    · rintro ((( rfl | h1) | h1) | h1)
      · exact .inr (.inr (.inl rfl))
      · exact .inl h1
      · exact .inr (.inl h1)
      · exact .inr (.inr (.inr h1))
    · rintro (h1 | h1 | rfl | h1)
      · exact .inl (.inl (.inr h1))
      · exact .inl (.inr h1)
      · exact .inl (.inl (.inl rfl))
      · exact .inr h1
theorem VL.fresh (h : VL S s l s' o) {z : Nat} (hz : z ∈ o) : s z = false := by
  induction h with
  | nil s => cases hz
  | skip h _ ih => exact ih hz
  | @step s s1 s2 y l o1 o2 h a b iha ihb =>
    rcases List.mem_append.1 hz with h1 | h1
    · exact (upd_false.1 (iha h1)).2
    · rcases List.mem_cons.1 h1 with rfl | h1
      · exact h
      · have := ihb h1
        cases hs : s z with
        | false => rfl
        | true => rw [(a.seen z).2 (.inl (upd_true.2 (.inr hs)))] at this; cases this
theorem VL.nodup (h : VL S s l s' o) : o.Nodup := by
  induction h with
  | nil s => exact List.nodup_nil
  | skip h _ ih => exact ih
  | @step s s1 s2 y l o1 o2 h a b iha ihb =>
    rw [List.nodup_append]; refine ⟨iha, List.nodup_cons.2 ⟨fun hy => ?_, ihb⟩, fun u hu v hv => ?_⟩
    · have := b.fresh hy; rw [(a.seen y).2 (.inl (upd_true.2 (.inl rfl)))] at this
      cases this
    · rintro rfl; rcases List.mem_cons.1 hv with rfl | hv
      · have := a.fresh hu; rw [upd_true.2 (.inl rfl)] at this
        cases this
      · have := b.fresh hv; rw [(a.seen u).2 (.inr hu)] at this
        cases this
theorem VL.rch (h : VL S s l s' o) {z : Nat} (hz : z ∈ o) : ∃ y ∈ l, Rch S y z := by
  induction h with
  | nil s => cases hz
  | skip h _ ih => obtain ⟨y, hy, hr⟩ := ih hz; exact ⟨y, List.mem_cons_of_mem _ hy, hr⟩
  | @step s s1 s2 y l o1 o2 h a b iha ihb =>
    rcases List.mem_append.1 hz with h1 | h1
    · obtain ⟨u, hu, hr⟩ := iha h1; exact ⟨y, List.mem_cons_self .., .head hu hr⟩
    · rcases List.mem_cons.1 h1 with rfl | h1
      · exact ⟨z, List.mem_cons_self .., .refl z⟩
      · obtain ⟨u, hu, hr⟩ := ihb h1; exact ⟨u, List.mem_cons_of_mem _ hu, hr⟩
theorem VL.closed (h : VL S s l s' o) : (∀ y ∈ l, s' y = true) ∧ ∀ z ∈ o, ∀ y ∈ S z, s' y = true := by
  induction h with
  | nil s => exact ⟨(fun _ h => by cases h), (fun _ h => by cases h)⟩
  | @skip s s' y l o h t ih =>
    refine ⟨fun u hu => ?_, ih.2⟩; rcases List.mem_cons.1 hu with rfl | hu
    · exact (t.seen u).2 (.inl h)
    · exact ih.1 u hu
  | @step s s1 s2 y l o1 o2 h a b iha ihb =>
    refine ⟨fun u hu => ?_, fun z hz u hu => ?_⟩
    · rcases List.mem_cons.1 hu with rfl | hu
      · exact (b.seen u).2 (.inl ((a.seen u).2 (.inl (upd_true.2 (.inl rfl)))))
      · exact ihb.1 u hu
    · rcases List.mem_append.1 hz with h1 | h1
      · exact (b.seen u).2 (.inl (iha.2 z h1 u hu))
      · rcases List.mem_cons.1 h1 with rfl | h1
        · exact (b.seen u).2 (.inl (iha.1 u hu))
        · exact ihb.2 z h1 u hu
theorem VL.above (h : VL S s l s' o) (hf : ∀ z, ∀ y ∈ S z, z < y) {b : Nat} (hb : ∀ y ∈ l, b < y) : ∀ z ∈ o, b < z := by
  induction h generalizing b with
  | nil s => intro z hz; cases hz
  | skip h _ ih => exact ih (fun y hy => hb y (List.mem_cons_of_mem _ hy))
  | @step s s1 s2 y l o1 o2 h a c iha ihb =>
    intro z hz; have hy := hb y (List.mem_cons_self ..); rcases List.mem_append.1 hz with h1 | h1
    · exact iha (fun u hu => Nat.lt_trans hy (hf y u hu)) z h1
    · rcases List.mem_cons.1 h1 with rfl | h1
      · exact hy
      · exact ihb (fun u hu => hb u (List.mem_cons_of_mem _ hu)) z h1
theorem VL.ahead (h : VL S s l s' o) (hf : ∀ z, ∀ y ∈ S z, z < y) : ∀ z ∈ o, ∀ y ∈ S z, s y = true ∨ ∃ A B, o = A ++ z :: B ∧ y ∈ A := by
  induction h with
  | nil s => intro z hz; cases hz
  | skip h _ ih => exact ih
  | @step s s1 s2 y l o1 o2 h a c iha ihb =>
    intro z hz u hu; rcases List.mem_append.1 hz with h1 | h1
    · have hzy : y < z := a.above hf (fun v hv => hf y v hv) z h1; have hzu := hf z u hu; rcases iha z h1 u hu with h2 | ⟨A, B, rfl, hA⟩
      · rcases upd_true.1 h2 with rfl | h2
        · omega
        · exact .inl h2
      · exact .inr ⟨A, B ++ y :: o2, by simp, hA⟩
    · rcases List.mem_cons.1 h1 with rfl | h1z
      · have hzu := hf z u hu; rcases (a.seen u).1 (a.closed.1 u hu) with h2 | h2
        · rcases upd_true.1 h2 with rfl | h2
          · omega
          · exact .inl h2
        · exact .inr ⟨o1, o2, rfl, h2⟩
      · rcases ihb z h1z u hu with h2 | ⟨A, B, rfl, hA⟩
        · rcases (a.seen u).1 h2 with h3 | h3
          · rcases upd_true.1 h3 with rfl | h3
            · obtain ⟨P, Q, rfl⟩ := List.append_of_mem h1z; exact .inr ⟨o1 ++ u :: P, Q, by simp, by simp⟩
            · exact .inl h3
          · obtain ⟨P, Q, rfl⟩ := List.append_of_mem h1z; exact .inr ⟨o1 ++ y :: P, Q, by simp, by simp [h3]⟩
        · exact .inr ⟨o1 ++ y :: A, B, by simp, by simp [hA]⟩
def Wi (n : Nat) (s : Nat → Bool) : Nat := ((List.range n).filter fun z => !s z).length
theorem Mh {n : Nat} {s : Nat → Bool} {y : Nat} (hy : y < n) (h : s y = false) : Wi n (upd s y) + 1 = Wi n s := by
  unfold Wi
  induction n with
  | zero => omega
  | succ n ih =>
    rw [List.range_succ, List.filter_append, List.filter_append, List.length_append, List.length_append]
    by_cases hyn : y = n
    · subst hyn
      have e : (List.range y).filter (fun z => !upd s y z) = (List.range y).filter (fun z => !s z) := by
        apply List.filter_congr
        intro z hz; have := List.mem_range.1 hz; simp [upd, show z ≠ y by omega]
      rw [e]; simp [upd, h]
    · have := ih (by omega)
      have e : ([n].filter fun z => !upd s y z).length = ([n].filter fun z => !s z).length := by
        simp only [List.filter_cons, List.filter_nil, upd]; simp [Ne.symm hyn]
      omega
theorem Zc {n : Nat} {s s' : Nat → Bool} (h : ∀ z, s z = true → s' z = true) : Wi n s' ≤ Wi n s := by
  unfold Wi
  apply List.Sublist.length_le
  have : (List.range n).filter (fun z => !s' z) = ((List.range n).filter fun z => !s z).filter fun z => !s' z := by
    rw [List.filter_filter]
    apply List.filter_congr
    intro z _
    cases hs : s z with
    | false => simp
    | true => simp [h z hs]
  rw [this]; exact List.filter_sublist
theorem VL.exist {n : Nat} (hS : ∀ z, z < n → ∀ y ∈ S z, y < n) : ∀ (m : Nat) (s : Nat → Bool), Wi n s ≤ m → ∀ l : List Nat, (∀ y ∈ l, y < n) → ∃ s' o, VL S s l s' o := by
  intro m
  induction m with
  | zero =>
    intro s hm l
    induction l with
    | nil => intro _; exact ⟨s, [], .nil s⟩
    | cons y l ih =>
      intro hl; obtain ⟨s', o, h⟩ := ih (fun z hz => hl z (List.mem_cons_of_mem _ hz))
      cases hy : s y with
      | true => exact ⟨s', o, .skip hy h⟩
      | false => have := Mh (hl y (List.mem_cons_self ..)) hy; omega
  | succ m ih =>
    intro s hm l
    induction l generalizing s with
    | nil => intro _; exact ⟨s, [], .nil s⟩
    | cons y l ihl =>
      intro hl
      cases hy : s y with
      | true =>
        obtain ⟨s', o, h⟩ := ihl s hm (fun z hz => hl z (List.mem_cons_of_mem _ hz)); exact ⟨s', o, .skip hy h⟩
      | false =>
        have hyn := hl y (List.mem_cons_self ..); have := Mh hyn hy; obtain ⟨s1, o1, h1⟩ := ih (upd s y) (by omega) (S y) (hS y hyn); have h2 : Wi n s1 ≤ Wi n s := Zc fun z hz => (h1.seen z).2 (.inl (upd_true.2 (.inr hz))); obtain ⟨s2, o2, h3⟩ := ihl s1 (by omega) (fun z hz => hl z (List.mem_cons_of_mem _ hz)); exact ⟨s2, _, .step hy h1 h3⟩
def one (r : Nat) : Nat → Bool := fun z => decide (z = r)
def Ord (S : Nat → List Nat) (r : Nat) (L : List Nat) : Prop := ∃ s' o, VL S (one r) (S r) s' o ∧ L = r :: o.reverse
theorem Ord.exist {n : Nat} (hS : ∀ z, z < n → ∀ y ∈ S z, y < n) {r : Nat} (hr : r < n) : ∃ L, Ord S r L := by
  obtain ⟨s', o, h⟩ := VL.exist hS _ (one r) (Nat.le_refl _) (S r) (hS r hr); exact ⟨_, s', o, h, rfl⟩
theorem Ord.mem {r : Nat} {L : List Nat} (h : Ord S r L) (z : Nat) : z ∈ L ↔ Rch S r z := by
  obtain ⟨s', o, h, rfl⟩ := h
  have hs : ∀ z, s' z = true ↔ z = r ∨ z ∈ o := fun z => by rw [h.seen]; simp [one]
  have hc : ∀ x, s' x = true → ∀ y ∈ S x, s' y = true := fun x hx y hy => by
    rcases (hs x).1 hx with rfl | hx
    · exact h.closed.1 y hy
    · exact h.closed.2 x hx y hy
  simp only [List.mem_cons, List.mem_reverse]; rw [← hs z]
  constructor
  · intro hz; rcases (hs z).1 hz with rfl | hz
    · exact .refl _
    · obtain ⟨y, hy, hr⟩ := h.rch hz; exact .head hy hr
  · intro hr
    have key : ∀ x z, Rch S x z → s' x = true → s' z = true := by
      intro x z hxz
      induction hxz with
      | refl x => exact id
      | head hy _ ih => exact fun hx => ih (hc _ hx _ hy)
    exact key r z hr ((hs r).2 (.inl rfl))
theorem Ord.nodup {r : Nat} {L : List Nat} (h : Ord S r L) : L.Nodup := by
  obtain ⟨s', o, h, rfl⟩ := h; refine List.nodup_cons.2 ⟨fun hr => ?_, (List.reverse_perm o).nodup_iff.2 h.nodup⟩; have := h.fresh (List.mem_reverse.1 hr); simp [one] at this
theorem Ord.fwd {r : Nat} {L : List Nat} (h : Ord S r L) (hf : ∀ z, ∀ y ∈ S z, z < y) : ∀ z ∈ L, ∀ y ∈ S z, ∃ A B, L = A ++ z :: B ∧ y ∈ B := by
  obtain ⟨s', o, h, rfl⟩ := h; intro z hz y hy; have hzy := hf z y hy; rcases List.mem_cons.1 hz with rfl | hz
  · refine ⟨[], o.reverse, rfl, ?_⟩; rcases (h.seen y).1 (h.closed.1 y hy) with h1 | h1
    · simp [one] at h1; omega
    · exact List.mem_reverse.2 h1
  · have hz := List.mem_reverse.1 hz; have hrz : r < z := h.above hf (fun v hv => hf r v hv) z hz; rcases h.ahead hf z hz y hy with h1 | ⟨A, B, rfl, hA⟩
    · simp [one] at h1; omega
    · exact ⟨r :: B.reverse, A.reverse, by simp, List.mem_reverse.2 hA⟩
end
end Go.Proofs.Ytjpacggpipflcaa

namespace Go.Proofs.Ytjpacggpipflcaa
noncomputable section
open Go Go.RowKit
set_option linter.unusedVariables false
set_option linter.unusedSimpArgs false
theorem m_reverse (l : List Int) (hl : l.length < 4611686018427387904) : Dc l = some l.reverse := by
  unfold Dc
  by_cases h0 : l.length = 0
  · obtain rfl : l = [] := List.length_eq_zero_iff.1 h0
    have : Au Ba ((0 : Int), (A9 ((([] : List Int).length : Int) - 1)), ([] : List Int)) = some [] := by
      apply Bb
      unfold Ba; rw [Lh (by simp) (by simp)]
      rfl
    rw [this]; rfl
  · have hw : A9 ((l.length : Int) - 1) = ((l.length - 1 : Nat) : Int) := by rw [Lh (by omega) (by omega)]; omega
    rw [hw]
    let C : Nat → List Int := fun k => (List.range l.length).map fun i => if i < k ∨ l.length - 1 - k < i then l.getD (l.length - 1 - i) 0 else l.getD i 0
    have hC : ∀ k i, i < l.length → (C k).getD i 0 = if i < k ∨ l.length - 1 - k < i then l.getD (l.length - 1 - i) 0 else l.getD i 0 := fun k i hi => by simp only [C]; rw [Hq hi]
    have hlen : ∀ k, (C k).length = l.length := fun k => by simp [C]
    have := Ck Ba (fun k => (((k : Nat) : Int), ((l.length - 1 - k : Nat) : Int), C k)) l.reverse (l.length / 2) (fun k hk => ?_) ?_
    · have e0 : C 0 = l := by
        apply List.ext_getElem (by simp [C])
        intro i h1 h2; have := hC 0 i h2; rw [Ak _ _ _ h1, Ak _ _ _ h2] at this; rw [this, if_neg (by omega)]
      have this' : Au Ba ((0 : Int), ((l.length - 1 : Nat) : Int), l) = some l.reverse := by
        have h2 := this; simp only [e0] at h2; exact h2
      rw [this']; rfl
    · show Ba (_, _, _) = _
      unfold Ba
      have hlt : k < l.length - 1 - k := by omega
      simp only [Ca hlt, cond_true, Ap]; rw [Ac (De (by rw [hlen]; omega)), Ac (De (by rw [hlen]; omega)), Ac (De (by rw [hlen]; omega)), Ac (De (by rw [hlen]; omega))]; rw [w1 (by omega), show A9 (((l.length - 1 - k : Nat) : Int) - 1) = ((l.length - 1 - (k + 1) : Nat) : Int) by rw [Lh (by omega) (by omega)]; omega]
      congr 4
      rw [hC k _ (by omega), hC k _ (by omega), if_neg (by omega), if_neg (by omega)]; simp only [C]; rw [K7, K7]
      apply Dn
      intro i hi
      by_cases h1 : i = k
      · subst h1; rw [if_neg (by omega), if_pos rfl, if_pos (by omega)]
      · by_cases h2 : i = l.length - 1 - k
        · subst h2; rw [if_pos rfl, if_pos (by omega)]
          congr 1; omega
        · rw [if_neg h2, if_neg h1]
          by_cases h3 : i < k ∨ l.length - 1 - k < i
          · rw [if_pos h3, if_pos (by omega)]
          · rw [if_neg h3, if_neg (by omega)]
    · show Ba (_, _, _) = _
      unfold Ba; have hd : decide (((l.length / 2 : Nat) : Int) < ((l.length - 1 - l.length / 2 : Nat) : Int)) = false := decide_eq_false (by omega); simp only [hd, cond_false]
      congr 2
      apply List.ext_getElem (by simp [C])
      intro i h1 h2
      have h3 : i < l.length := by simpa [C] using h1
      have := hC (l.length / 2) i h3; rw [Ak _ _ _ h1] at this; rw [this, List.getElem_reverse]
      split
      · rw [Ak _ _ _ (by omega)]
      · rw [Ak _ _ _ h3]
        congr 1; omega
theorem top {st : List Int} {a : Int} (h : st.length < 4611686018427387904) : (st ++ [a]).getD (A9 (((st ++ [a]).length : Int) - 1)).toNat 0 = a := by
  have : A9 (((st ++ [a]).length : Int) - 1) = ((st.length : Nat) : Int) := by rw [List.length_append, List.length_singleton, Lh (by omega) (by omega)]; omega
  rw [this, Ap]; simp [List.getD]
theorem topi {st : List Int} {a : Int} (h : st.length < 4611686018427387904) : A9 (((st ++ [a]).length : Int) - 1) = ((st.length : Nat) : Int) := by
  rw [List.length_append, List.length_singleton, Lh (by omega) (by omega)]; omega
theorem L2_done {g : TGraph} {R : List Bool} {st T : List Int} {a : Nat} (hst : st.length < 64) (ha : a < g.Succ.length) (h64 : g.Succ.length ≤ 64) (ht : T.getD a 0 = ((g.Succ.getD a []).length : Int)) :
    E3 g R (st ++ [(a : Int)]) T = some (.done (.inl T)) := by
  unfold E3; simp only [top (st := st) (a := (a : Int)) (by omega), Ap]; rw [Ac (De (by omega)), Ac (De ha), ht, Di, cond_false]
theorem L2_step {g : TGraph} {R : List Bool} {st T : List Int} {a t y : Nat} (hst : st.length < 64) (ha : a < g.Succ.length) (h64 : g.Succ.length ≤ 64) (ht : T.getD a 0 = (t : Int)) (htl : t < (g.Succ.getD a []).length) (htm : t < 64)
    (hy : (g.Succ.getD a []).getD t 0 = (y : Int)) (hyn : y < g.Succ.length) :
    E3 g R (st ++ [(a : Int)]) T = bif R.getD y false then some (.next (Et 64 (0 : Int) T a ((t + 1 : Nat) : Int))) else some (.done (.inr (Et 64 false R y true, Et 64 (0 : Int) T a ((t + 1 : Nat) : Int), (st ++ [(a : Int)]) ++ [(y : Int)]))) := by
  have hroom : (1000 : Nat) ≤ room := by decide
  unfold E3; simp only [top (st := st) (a := (a : Int)) (by omega), Ap, ht, hy]; rw [Ac (De (by omega)), Ac (De ha), Ca htl, cond_true, Ac (De ha), Ac (De (by omega)), Ac (De htl), Ac (De (by omega)), Ac (De (by omega)), Ac (De (by omega)), w1 (by omega)]
  cases R.getD y false with
  | true => rfl
  | false =>
    simp only [Bool.not_false, cond_true, cond_false]; rw [Ac (De (by omega)), Ac (by rw [List.length_append, List.length_singleton, List.length_singleton]; omega)]
theorem F3_eq {g : TGraph} {R : List Bool} {st T Lf : List Int} {a : Nat} (hst : st.length < 64) (hLf : Lf.length < 64) :
    C2 g (R, T, st ++ [(a : Int)], Lf) = (Au (E3 g R (st ++ [(a : Int)])) T).bind fun x => match x with
      | .inl T' => if st = [] then some (.done (Lf ++ [(a : Int)]).reverse) else some (.next (R, T', st, Lf ++ [(a : Int)]))
      | .inr (R', T', st') => some (.next (R', T', st', Lf)) := by
  have hroom : (1000 : Nat) ≤ room := by decide
  unfold C2; simp only
  have hb : A3 (A9 (((st ++ [(a : Int)]).length : Int) - 1)) (st ++ [(a : Int)]).length := by rw [topi (by omega)]; exact De (by simp)
  rw [Ac hb]
  congr 1
  funext x
  cases x with
  | inr y => obtain ⟨R', T', st'⟩ := y; rfl
  | inl T' =>
    simp only [top (st := st) (a := (a : Int)) (by omega)]; rw [topi (by omega), Ap, Ac (by rw [List.length_singleton]; omega), Ac ⟨by omega, by simp⟩]; have e : (st ++ [(a : Int)]).take st.length = st := List.take_left' rfl; rw [e]
    cases st with
    | nil =>
      rw [if_pos rfl]
      have : decide ((0 : Int) < (([] : List Int).length : Int)) = false := by decide
      rw [this, cond_false, m_reverse _ (by simp; omega)]; simp only [Option.bind_some]; rw [Ac (by simp)]
    | cons b st' =>
      rw [if_neg (by simp)]; have : decide ((0 : Int) < ((b :: st').length : Int)) = true := decide_eq_true (by simp <;> omega); rw [this, cond_true]
theorem loopO_from {S X : Type} {f : S → Option (LR S X)} {a b : S} (h : f a = f b) : Au f a = Au f b := by
  cases hb : f b with
  | none => rw [Pq (h.trans hb), Pq hb]
  | some r => cases r with
    | done x => rw [Bb (h.trans hb), Bb hb]
    | next s => rw [B8 (h.trans hb), B8 hb]
theorem N3 {S X : Type} {f : S → Option (LR S X)} {s : S} : Mo (f s) f = Au f s := by
  unfold Mo
  cases hb : f s with
  | none => rw [Pq hb]; rfl
  | some r => cases r with
    | done x => rw [Bb hb]; rfl
    | next s' => rw [B8 hb]; rfl
def sN (L : List (List Int)) (k : Nat) : List Nat := (L.getD k []).map Int.toNat
def RelS (R : List Bool) (s : Nat → Bool) : Prop := ∀ z, z < 64 → R.getD z false = s z
theorem H2 {α : Type} {d : α} {l : List α} {i : Nat} {x : α} {k : Nat} (hk : k < 64) : (Et 64 d l i x).getD k d = if k = i then x else l.getD k d := by
  rw [Wx hk]
  by_cases h : k = i
  · subst h; simp
  · have : Nat.beq k i = false := by cases hb : Nat.beq k i with | false => rfl | true => exact absurd (Nat.eq_of_beq_eq_true hb) h
    rw [this, if_neg h]; rfl
theorem RelS.set {R : List Bool} {s : Nat → Bool} (h : RelS R s) {y : Nat} : RelS (Et 64 false R y true) (upd s y) := fun z hz => by
  rw [H2 hz, h z hz]
  by_cases hzy : z = y
  · simp [upd, hzy]
  · simp [upd, hzy]
def Hy (o : List Nat) : List Int := o.map Int.ofNat
theorem order_main {g : TGraph} (hm : Fd g.Succ = true) {s s' : Nat → Bool} {l o : List Nat} (hv : VL (sN g.Succ) s l s' o) :
    ∀ (R : List Bool) (T st Lf : List Int) (a t : Nat), RelS R s → a < g.Succ.length → l = (sN g.Succ a).drop t → T.getD a 0 = (t : Int) → t ≤ (sN g.Succ a).length → s a = true → (∀ z, z < 64 → s z = false → T.getD z 0 = 0) →
      Lf.length + Wi 64 s + st.length + 1 ≤ 64 →
      ∃ (R' : List Bool) (T' : List Int), RelS R' s' ∧ (∀ z, z < 64 → s' z = false → T'.getD z 0 = 0) ∧ (∀ z, z < 64 → s z = true → z ≠ a → T'.getD z 0 = T.getD z 0) ∧ Lf.length + o.length + Wi 64 s' + st.length + 1 ≤ 64 ∧
        Au (C2 g) (R, T, st ++ [(a : Int)], Lf) = if st = [] then some (Lf ++ Hy o ++ [(a : Int)]).reverse else Au (C2 g) (R', T', st, Lf ++ Hy o ++ [(a : Int)]) := by
  obtain ⟨hL1, hL64, hLok⟩ := mayS_iff.1 hm
  have hlenS : ∀ a, (sN g.Succ a).length = (g.Succ.getD a []).length := fun a => by simp [sN]
  have hdrop : ∀ (a t y : Nat) (l' : List Nat), a < g.Succ.length → y :: l' = (sN g.Succ a).drop t → t < (g.Succ.getD a []).length ∧ (g.Succ.getD a []).getD t 0 = (y : Int) ∧ y < g.Succ.length ∧ l' = (sN g.Succ a).drop (t + 1) := fun a t y l' ha he => by
    have ht : t < (sN g.Succ a).length := by
      rcases Nat.lt_or_ge t (sN g.Succ a).length with h | h
      · exact h
      · rw [List.drop_eq_nil_of_le h] at he; cases he
    rw [List.drop_eq_getElem_cons ht] at he; simp only [List.cons.injEq] at he; obtain ⟨h1, h2⟩ := he
    have ht' : t < (g.Succ.getD a []).length := by rw [← hlenS]; exact ht
    obtain ⟨b0, b1⟩ := Py (hLok a ha) ht'
    have h3 : (sN g.Succ a)[t] = ((g.Succ.getD a []).getD t 0).toNat := by rw [Ak _ _ _ ht']; simp [sN]
    exact ⟨ht', by omega, by omega, h2⟩
  induction hv with
  | nil s =>
    intro R T st Lf a t hR ha hl hT htl hsa hz hc
    have ht : t = (g.Succ.getD a []).length := by
      have := congrArg List.length hl; simp at this; rw [hlenS] at htl this; omega
    refine ⟨R, T, hR, hz, fun _ _ _ _ => rfl, by simpa using hc, ?_⟩
    have hF : C2 g (R, T, st ++ [(a : Int)], Lf) = if st = [] then some (.done (Lf ++ [(a : Int)]).reverse) else some (.next (R, T, st, Lf ++ [(a : Int)])) := by
      rw [F3_eq (by omega) (by omega), Bb (L2_done (by omega) ha hL64 (by rw [hT, ht]))]
      rfl
    by_cases hst : st = []
    · rw [if_pos hst] at hF ⊢; rw [Bb hF]; simp [Hy]
    · rw [if_neg hst] at hF ⊢; rw [B8 hF]; simp [Hy]
  | @skip s s' y l o h tl ih =>
    intro R T st Lf a t hR ha hl hT htl hsa hz hc; obtain ⟨h1, h2, h3, h4⟩ := hdrop a t y l ha hl; have hb := H6 (hLok a ha); have hs := L2_step (g := g) (R := R) (st := st) (T := T) (a := a) (t := t) (y := y) (by omega) ha hL64 hT h1 (by omega) h2 h3; rw [hR y (by omega), h, cond_true] at hs; obtain ⟨R', T', a1, a2, a3, a4, a5⟩ := ih R (Et 64 (0 : Int) T a ((t + 1 : Nat) : Int)) st Lf a (t + 1) hR ha h4 (by rw [H2 (by omega), if_pos rfl]) (by rw [hlenS]; omega) hsa
      (fun z hz1 hz2 => by rw [H2 hz1, if_neg (by rintro rfl; rw [hsa] at hz2; cases hz2)]; exact hz z hz1 hz2) hc
    refine ⟨R', T', a1, a2, fun z hz1 hz2 hz3 => by rw [a3 z hz1 hz2 hz3, H2 hz1, if_neg hz3], a4, ?_⟩; rw [← a5]
    apply loopO_from
    rw [F3_eq (by omega) (by omega), F3_eq (by omega) (by omega), B8 hs]
  | @step s s1 s2 y l o1 o2 h tl tr ih1 ih2 =>
    intro R T st Lf a t hR ha hl hT htl hsa hz hc; obtain ⟨h1, h2, h3, h4⟩ := hdrop a t y l ha hl; have hb := H6 (hLok a ha)
    have hay : y ≠ a := by rintro rfl; rw [hsa] at h; cases h
    have hs := L2_step (g := g) (R := R) (st := st) (T := T) (a := a) (t := t) (y := y) (by omega) ha hL64 hT h1 (by omega) h2 h3; rw [hR y (by omega), h, cond_false] at hs; have hcu := Mh (n := 64) (show y < 64 by omega) h
    have hF : C2 g (R, T, st ++ [(a : Int)], Lf) = some (.next (Et 64 false R y true, Et 64 (0 : Int) T a ((t + 1 : Nat) : Int), (st ++ [(a : Int)]) ++ [(y : Int)], Lf)) := by
      rw [F3_eq (by omega) (by omega), Bb hs]
      rfl
    obtain ⟨R1, T1, b1, b2, b3, b4, b5⟩ := ih1 (Et 64 false R y true) (Et 64 (0 : Int) T a ((t + 1 : Nat) : Int)) (st ++ [(a : Int)]) Lf y 0 hR.set h3 (by simp)
      (by rw [H2 (by omega), if_neg hay]; exact hz y (by omega) h) (Nat.zero_le _) (upd_true.2 (.inl rfl))
      (fun z hz1 hz2 => by
        obtain ⟨c1, c2⟩ := upd_false.1 hz2; rw [H2 hz1, if_neg (by rintro rfl; rw [hsa] at c2; cases c2)]
        exact hz z hz1 c2) (by rw [List.length_append, List.length_singleton]; omega)
    rw [if_neg (by simp)] at b5
    have hTa : T1.getD a 0 = ((t + 1 : Nat) : Int) := by rw [b3 a (by omega) (upd_true.2 (.inr hsa)) (Ne.symm hay), H2 (by omega), if_pos rfl]
    rw [List.length_append, List.length_singleton] at b4; obtain ⟨R2, T2, c1, c2, c3, c4, c5⟩ := ih2 R1 T1 st (Lf ++ Hy o1 ++ [(y : Int)]) a (t + 1) b1 ha h4 hTa (by rw [hlenS]; omega) ((tl.seen a).2 (.inl (upd_true.2 (.inr hsa)))) b2
      (by simp only [List.length_append, List.length_singleton, Hy, List.length_map]; omega)
    refine ⟨R2, T2, c1, c2, fun z hz1 hz2 hz3 => ?_, ?_, ?_⟩
    · rw [c3 z hz1 ((tl.seen z).2 (.inl (upd_true.2 (.inr hz2)))) hz3, b3 z hz1 (upd_true.2 (.inr hz2)) (by rintro rfl; rw [h] at hz2; cases hz2), H2 hz1, if_neg hz3]
    · simp only [List.length_append, List.length_singleton, Hy, List.length_map, List.length_cons] at c4 ⊢; omega
    · rw [B8 hF, b5, c5]
      have e : Lf ++ Hy o1 ++ [(y : Int)] ++ Hy o2 ++ [(a : Int)] = Lf ++ Hy (o1 ++ y :: o2) ++ [(a : Int)] := by simp [Hy]
      rw [e]
theorem Ns {L : List (List Int)} (h : Fd L = true) : ∀ z, z < L.length → ∀ y ∈ sN L z, y < L.length := fun z hz y hy => by
  obtain ⟨_, _, h3⟩ := mayS_iff.1 h; obtain ⟨x, hx, rfl⟩ := List.mem_map.1 hy; have := Ju (h3 z hz) hx; omega
theorem cnt_one {r : Nat} (hr : r < 64) : Wi 64 (one r) = 63 := by
  have h := Mh (n := 64) (s := fun _ => false) hr rfl
  have e : upd (fun _ => false) r = one r := by funext z; simp [upd, one]
  rw [e] at h
  have : Wi 64 (fun _ => false) = 64 := by decide
  omega
theorem Hn {α : Type} {n z : Nat} {d : α} : (List.replicate n d).getD z d = d := by rw [List.getD_eq_getElem?_getD, List.getElem?_replicate]; split <;> rfl
theorem Tc (g : TGraph) (h : Fits g.Succ) (hP : True) (r : Int) :
    (H0 g = true → 0 ≤ r → r < (g.Succ.length : Int) → ∀ L, Ord (sN g.Succ) r.toNat L → D4 g r = some (Hy L)) ∧
    ((H0 g && (decide (0 ≤ r) && decide (r < (g.Succ.length : Int)))) = false → D4 g r = some []) := by
  refine ⟨fun hm h0 h1 L hL => ?_, fun hf => ?_⟩
  · have hms : Fd g.Succ = true := by unfold H0 at hm; exact (Bool.and_eq_true _ _ ▸ hm).1
    obtain ⟨hL1, hL64, hLok⟩ := mayS_iff.1 hms; obtain ⟨s', o, hv, rfl⟩ := hL; have hrn : ((r.toNat : Nat) : Int) = r := Int.toNat_of_nonneg h0
    have hr : r.toNat < g.Succ.length := by omega
    obtain ⟨R', T', _, _, _, _, hmain⟩ := order_main hms hv (Et 64 false (List.replicate 64 false) r.toNat true) (List.replicate 64 (0 : Int)) [] [] r.toNat 0
      (fun z hz => by rw [H2 hz, Hn]; by_cases hzr : z = r.toNat <;> simp [one, hzr]) hr (by simp) Hn (Nat.zero_le _) (by simp [one])
      (fun z hz _ => Hn) (by rw [cnt_one (by omega)]; simp)
    rw [if_pos rfl, hrn] at hmain; unfold D4; rw [m_may _ h, hm, Option.bind_some]; simp only [Bool.not_true, beq_self_eq_true, cond_true, cond_false, Ot, decide_eq_true h0, decide_eq_true h1, Bool.and_self, Option.bind_some]; rw [Ac ⟨h0, by omega⟩]; have hF : ∀ X, Au (C2 g) (Et 64 false (List.replicate 64 false) r.toNat true, List.replicate 64 (0 : Int), [] ++ [r], []) = some X →
        (Mo (C2 g (Et 64 false (List.replicate 64 false) r.toNat true, List.replicate 64 (0 : Int), [r], [])) (C2 g)).bind (fun x => some x) = some X := fun X hX => by
      rw [N3]; rw [List.nil_append] at hX; rw [hX]; rfl
    refine (hF _ hmain).trans ?_; simp only [List.nil_append, List.reverse_append, Hy, List.map_cons, List.map_reverse, List.reverse_cons, List.reverse_nil]
    simp
    omega
  · unfold D4; rw [m_may _ h, Option.bind_some]
    cases hm : H0 g with
    | false => rfl
    | true =>
      rw [hm, Bool.true_and] at hf; simp only [Bool.not_true, beq_self_eq_true, cond_true, cond_false, Ot, hf, Option.bind_some, Bool.not_false]
      rfl
end
end Go.Proofs.Ytjpacggpipflcaa

namespace Go.Proofs.Ytjpacggpipflcaa
noncomputable section
open Go Go.RowKit
set_option linter.unusedVariables false
set_option linter.unusedSimpArgs false
def RelN (n : Nat) (R : List Bool) (s : Nat → Bool) : Prop := R.length = n ∧ ∀ z, z < n → R.getD z false = s z
theorem RelN.set {n : Nat} {R : List Bool} {s : Nat → Bool} (h : RelN n R s) {y : Nat} (hy : y < n) : RelN n (R.set y true) (upd s y) := by
  refine ⟨by rw [List.length_set]; exact h.1, fun z hz => ?_⟩; rw [List.getD_eq_getElem?_getD, List.getElem?_set]
  by_cases hzy : y = z
  · subst hzy; simp [upd, h.1, hy]
  · rw [if_neg hzy, ← List.getD_eq_getElem?_getD, h.2 z hz]; simp [upd, Ne.symm hzy]
theorem J1 : ∀ (n : Nat) (l : List Nat), l.Nodup → (∀ x ∈ l, x < n) → l.length ≤ n
  | 0, l, _, h => by
    cases l with
    | nil => simp
    | cons x l => have := h x (List.mem_cons_self ..); omega
  | n + 1, l, hd, h => by
    by_cases hn : n ∈ l
    · have h1 := J1 n (l.erase n) (hd.erase n) fun x hx => by
        have h2 := (hd.mem_erase_iff).1 hx; have := h x h2.2; have := h2.1; omega
      rw [List.length_erase_of_mem hn] at h1; omega
    · have h1 := J1 n l hd fun x hx => by
        have := h x hx
        have : x ≠ n := by rintro rfl; exact hn hx
        omega
      omega
end
end Go.Proofs.Ytjpacggpipflcaa

namespace Go.Proofs.Ytjpacggpipflcaa
noncomputable section
open Go Go.RowKit
set_option linter.unusedVariables false
set_option linter.unusedSimpArgs false
end
end Go.Proofs.Ytjpacggpipflcaa

namespace Go.Proofs.Ytjpacggpipflcaa
noncomputable section
open Go Go.RowKit
set_option linter.unusedVariables false
set_option linter.unusedSimpArgs false
theorem Px : ∀ {a b : List Int}, a.Pairwise (· < ·) → b.Pairwise (· < ·) → (∀ x, x ∈ a ↔ x ∈ b) → a = b
  | [], [], _, _, _ => rfl
  | [], y :: b, _, _, h => by have := (h y).2 (List.mem_cons_self ..); cases this
  | x :: a, [], _, _, h => by have := (h x).1 (List.mem_cons_self ..); cases this
  | x :: a, y :: b, ha, hb, h => by
    have ha' := List.pairwise_cons.1 ha; have hb' := List.pairwise_cons.1 hb
    have hxy : x = y := by
      rcases List.mem_cons.1 ((h x).1 (List.mem_cons_self ..)) with h1 | h1
      · exact h1
      · rcases List.mem_cons.1 ((h y).2 (List.mem_cons_self ..)) with h2 | h2
        · exact h2.symm
        · have := ha'.1 y h2; have := hb'.1 x h1; omega
    subst hxy
    congr 1
    refine Px ha'.2 hb'.2 fun z => ⟨fun hz => ?_, fun hz => ?_⟩
    · rcases List.mem_cons.1 ((h z).1 (List.mem_cons_of_mem _ hz)) with rfl | h1
      · have := ha'.1 z hz; omega
      · exact h1
    · rcases List.mem_cons.1 ((h z).2 (List.mem_cons_of_mem _ hz)) with rfl | h1
      · have := hb'.1 z hz; omega
      · exact h1
theorem Nz (p : Nat → Bool) (n : Nat) : (((List.range n).filter p).map Int.ofNat).Pairwise (· < ·) := by
  rw [List.pairwise_map]; have := (List.pairwise_lt_range (n := n)).filter p
  exact this.imp fun h => by simpa using h
theorem Ra {p : Nat → Bool} {n : Nat} {x : Int} : x ∈ ((List.range n).filter p).map Int.ofNat ↔ ∃ k : Nat, x = (k : Int) ∧ k < n ∧ p k = true := by
  simp only [List.mem_map, List.mem_filter, List.mem_range]
  constructor
  · rintro ⟨k, ⟨h1, h2⟩, rfl⟩; exact ⟨k, rfl, h1, h2⟩
  · rintro ⟨k, rfl, h1, h2⟩; exact ⟨k, ⟨h1, h2⟩, rfl⟩
theorem U0 {L : List (List Int)} {k i : Nat} : Kt L k i = true ↔ (i : Int) ∈ L.getD k [] := by unfold Kt; rw [List.contains_iff_mem]
theorem Xd {L : List (List Int)} (h : L.length ≤ maxLen) : L.length < 9223372036854775808 := by unfold maxLen at h; omega
end
end Go.Proofs.Ytjpacggpipflcaa

namespace Go.Proofs.Ytjpacggpipflcaa
noncomputable section
open Go Go.RowKit
set_option linter.unusedVariables false
set_option linter.unusedSimpArgs false
theorem mem_sN {L : List (List Int)} (h : Fd L = true) {x y : Nat} (hx : x < L.length) : y ∈ sN L x ↔ (y : Int) ∈ L.getD x [] := by
  obtain ⟨_, _, h3⟩ := mayS_iff.1 h; unfold sN; rw [List.mem_map]
  constructor
  · rintro ⟨z, hz, rfl⟩; have := Ju (h3 x hx) hz; rw [Int.toNat_of_nonneg this.1]; exact hz
  · intro hy; exact ⟨_, hy, Ap y⟩
theorem rch_lt {L : List (List Int)} (h : Fd L = true) {x y : Nat} (hr : Rch (sN L) x y) (hx : x < L.length) : y < L.length := by
  induction hr with
  | refl x => exact hx
  | head hy _ ih => exact ih (Ns h _ hx _ hy)
theorem ofN_at {l : List Nat} {i : Nat} (hi : i < l.length) : (Hy l).getD i 0 = ((l[i] : Nat) : Int) := by simp [Hy, List.getD, hi]
end
end Go.Proofs.Ytjpacggpipflcaa

namespace Go.Proofs.Ytjpacggpipflcaa
noncomputable section
open Go Go.RowKit
set_option linter.unusedVariables false
set_option linter.unusedSimpArgs false
end
end Go.Proofs.Ytjpacggpipflcaa

namespace Go.Proofs.Ytjpacggpipflcaa
noncomputable section
open Go Go.RowKit
set_option linter.unusedVariables false
set_option linter.unusedSimpArgs false
def mk (o : List Bool) (l : List Nat) : List Bool := l.foldl (fun o y => o.set y true) o
theorem mk_len (l : List Nat) : ∀ o : List Bool, (mk o l).length = o.length := by
  induction l with
  | nil => intro o; rfl
  | cons y l ih => intro o; show (mk (o.set y true) l).length = _; rw [ih, List.length_set]
theorem mk_at {n : Nat} (l : List Nat) : ∀ (o : List Bool), o.length = n → (∀ y ∈ l, y < n) → ∀ z, (mk o l).getD z false = true ↔ o.getD z false = true ∨ z ∈ l := by
  induction l with
  | nil => intro o _ _ z; simp [mk]
  | cons y l ih =>
    intro o ho hl z
    show (mk (o.set y true) l).getD z false = true ↔ _
    rw [ih (o.set y true) (by rw [List.length_set]; exact ho) (fun u hu => hl u (List.mem_cons_of_mem _ hu)) z]; have hy := hl y (List.mem_cons_self ..)
    have e : (o.set y true).getD z false = true ↔ o.getD z false = true ∨ z = y := by
      rw [List.getD_eq_getElem?_getD, List.getElem?_set, List.getD_eq_getElem?_getD]
      by_cases h : y = z
      · subst h; simp [ho, hy]
      · simp [h, Ne.symm h]
    rw [e, List.mem_cons]
    constructor
    · rintro ((h | h) | h)
      · exact .inl h
      · exact .inr (.inl h)
      · exact .inr (.inr h)
    · rintro (h | h | h)
      · exact .inl (.inl h)
      · exact .inl (.inr h)
      · exact .inr h
def sw (S : Nat → List Nat) (o : List Bool) : Nat → List Bool
  | 0 => o
  | i + 1 => if (sw S o i).getD i false = true then mk (sw S o i) (S i) else sw S o i
def Vm (S : Nat → List Nat) (n : Nat) (o : List Bool) : Nat → List Bool
  | 0 => o
  | j + 1 => sw S (Vm S n o j) n
section
variable {S : Nat → List Nat} {n : Nat} (hS : ∀ z, z < n → ∀ y ∈ S z, y < n)
theorem Nv (o : List Bool) : ∀ i, (sw S o i).length = o.length := by
  intro i
  induction i with
  | zero => rfl
  | succ i ih => unfold sw; split; rw [mk_len, ih]; exact ih
theorem Ti (o : List Bool) : ∀ j, (Vm S n o j).length = o.length := by
  intro j
  induction j with
  | zero => rfl
  | succ j ih => unfold Vm; rw [Nv, ih]
include hS
theorem Tj {o : List Bool} (ho : o.length = n) : ∀ i, i ≤ n → ∀ z, o.getD z false = true → (sw S o i).getD z false = true := by
  intro i
  induction i with
  | zero => intro _ z h; exact h
  | succ i ih =>
    intro hi z h; unfold sw
    split
    · exact (mk_at (n := n) _ _ (by rw [Nv]; exact ho) (hS i (by omega)) z).2 (.inl (ih (by omega) z h))
    · exact ih (by omega) z h
theorem sw_sound {o : List Bool} {r : Nat} (ho : o.length = n) (h : ∀ z, o.getD z false = true → Rch S r z) : ∀ i, i ≤ n → ∀ z, (sw S o i).getD z false = true → Rch S r z := by
  intro i
  induction i with
  | zero => intro _ z hz; exact h z hz
  | succ i ih =>
    intro hi z hz; unfold sw at hz
    split at hz
    · rename_i hsi
      rcases (mk_at (n := n) _ _ (by rw [Nv]; exact ho) (hS i (by omega)) z).1 hz with h1 | h1
      · exact ih (by omega) z h1
      · exact (ih (by omega) i hsi).tail h1
    · exact ih (by omega) z hz
theorem sw_step {o : List Bool} (ho : o.length = n) : ∀ i, i ≤ n → ∀ j, j < i → o.getD j false = true → ∀ y ∈ S j, (sw S o i).getD y false = true := by
  intro i
  induction i with
  | zero => intro _ j hj; omega
  | succ i ih =>
    intro hi j hj hoj y hy; unfold sw
    by_cases hji : j = i
    · subst hji; have h1 := Tj hS ho j (by omega) j hoj; rw [if_pos h1]; exact (mk_at (n := n) _ _ (by rw [Nv]; exact ho) (hS j (by omega)) y).2 (.inr hy)
    · have h1 := ih (by omega) j (by omega) hoj y hy
      split
      · exact (mk_at (n := n) _ _ (by rw [Nv]; exact ho) (hS i (by omega)) y).2 (.inl h1)
      · exact h1
theorem sw_closed {o : List Bool} (ho : o.length = n) (hc : ∀ j, j < n → o.getD j false = true → ∀ y ∈ S j, o.getD y false = true) : ∀ i, i ≤ n → ∀ z, (sw S o i).getD z false = true → o.getD z false = true := by
  intro i
  induction i with
  | zero => intro _ z h; exact h
  | succ i ih =>
    intro hi z hz; unfold sw at hz
    split at hz
    · rename_i hsi
      rcases (mk_at (n := n) _ _ (by rw [Nv]; exact ho) (hS i (by omega)) z).1 hz with h1 | h1
      · exact ih (by omega) z h1
      · exact hc i (by omega) (ih (by omega) i hsi) z h1
    · exact ih (by omega) z hz
theorem Zj {r : Nat} (hr : r < n) (z : Nat) : (Vm S n ((List.replicate n false).set r true) n).getD z false = true ↔ Rch S r z := by
  let o0 := (List.replicate n false).set r true
  have ho0 : o0.length = n := by simp [o0]
  have hat0 : ∀ z, o0.getD z false = true ↔ z = r := fun z => by
    show ((List.replicate n false).set r true).getD z false = true ↔ z = r
    rw [List.getD_eq_getElem?_getD, List.getElem?_set]
    by_cases h : r = z
    · subst h; simp [hr]
    · rw [if_neg h, ← List.getD_eq_getElem?_getD, Hn]; simp [Ne.symm h]
  have hlen : ∀ j, (Vm S n o0 j).length = n := fun j => by rw [Ti, ho0]
  have hsound : ∀ j z, (Vm S n o0 j).getD z false = true → Rch S r z := by
    intro j
    induction j with
    | zero => intro z hz; rw [(hat0 z).1 hz]; exact .refl _
    | succ j ih => intro z hz; exact sw_sound hS (hlen j) ih n (Nat.le_refl _) z hz
  have hmono : ∀ j, ∀ z, o0.getD z false = true → (Vm S n o0 j).getD z false = true := by
    intro j
    induction j with
    | zero => intro z h; exact h
    | succ j ih => intro z h; exact Tj hS (hlen j) n (Nat.le_refl _) z (ih z h)
  let C : Nat → Prop := fun j => ∀ i, i < n → (Vm S n o0 j).getD i false = true → ∀ y ∈ S i, (Vm S n o0 j).getD y false = true
  have key : ∀ j, C j ∨ Wi n (fun z => (Vm S n o0 j).getD z false) + j + 1 ≤ n := by
    intro j
    induction j with
    | zero =>
      refine .inr ?_; have h1 := Mh (n := n) (s := fun _ => false) hr rfl
      have e : upd (fun _ => false) r = fun z => (Vm S n o0 0).getD z false := by
        funext z
        rw [Bool.eq_iff_iff, upd_true]
        show _ ↔ o0.getD z false = true
        rw [hat0]
        simp
      rw [e] at h1
      have hcl : Wi n (fun _ => false) = n := by
        unfold Wi; rw [List.filter_eq_self.2 (by simp)]
        simp
      omega
    | succ j ih =>
      by_cases hc : C j
      · refine .inl fun i hi h y hy => ?_; have h1 := sw_closed hS (hlen j) hc n (Nat.le_refl _) i h; exact Tj hS (hlen j) n (Nat.le_refl _) y (hc i hi h1 y hy)
      · rcases ih with ih | ih
        · exact (hc ih).elim
        · refine .inr ?_
          have hex : ∃ i, i < n ∧ (Vm S n o0 j).getD i false = true ∧ ∃ y, y ∈ S i ∧ (Vm S n o0 j).getD y false = false := by
            simp only [C] at hc; simp only [Classical.not_forall] at hc; obtain ⟨i, hi, h1, y, hy, h2⟩ := hc; exact ⟨i, hi, h1, y, hy, by simpa using h2⟩
          obtain ⟨i, hi, h1, y, hy, h2⟩ := hex; have h3 := sw_step hS (hlen j) n (Nat.le_refl _) i hi h1 y hy; have hyn := hS i hi y hy; have h4 := Mh (n := n) (s := fun z => (Vm S n o0 j).getD z false) hyn h2
          have h5 : Wi n (fun z => (Vm S n o0 (j + 1)).getD z false) ≤ Wi n (upd (fun z => (Vm S n o0 j).getD z false) y) := Zc fun z hz => by
            rcases upd_true.1 hz with rfl | hz
            · exact h3
            · exact Tj hS (hlen j) n (Nat.le_refl _) z hz
          omega
  have hC : C n := by
    rcases key n with h | h
    · exact h
    · omega
  constructor
  · exact hsound n z
  · intro hrch
    have hlt : ∀ x z, Rch S x z → x < n → z < n ∧ ((Vm S n o0 n).getD x false = true → (Vm S n o0 n).getD z false = true) := by
      intro x z hxz
      induction hxz with
      | refl x => exact fun hx => ⟨hx, id⟩
      | @head x y z hy _ ih =>
        intro hx; have := ih (hS x hx y hy); exact ⟨this.1, fun h => this.2 (hC x hx h y hy)⟩
    exact (hlt r z hrch hr).2 (hmono n r ((hat0 r).2 rfl))
end
end
end Go.Proofs.Ytjpacggpipflcaa

namespace Go.Proofs.Ytjpacggpipflcaa
noncomputable section
open Go Go.RowKit
set_option linter.unusedVariables false
set_option linter.unusedSimpArgs false
def pos : List Nat → Nat → Nat
  | [], _ => 0
  | x :: l, z => if x = z then 0 else pos l z + 1
theorem U8 (x : Nat) (l : List Nat) (z : Nat) : pos (x :: l) z = if x = z then 0 else pos l z + 1 := rfl
theorem pos_app {A l : List Nat} {z : Nat} (h : z ∉ A) : pos (A ++ l) z = A.length + pos l z := by
  induction A with
  | nil => simp
  | cons x A ih =>
    have h1 : x ≠ z := fun e => h (by rw [e]; exact List.mem_cons_self ..); have h2 : z ∉ A := fun e => h (List.mem_cons_of_mem _ e); rw [List.cons_append, U8, if_neg h1, ih h2, List.length_cons]; omega
theorem Ku {P : List Nat} (hd : P.Nodup) {i : Nat} (hi : i < P.length) : P[i] ∉ P.take i ∧ pos P P[i] = i := by
  have e : P = P.take i ++ P[i] :: P.drop (i + 1) := by rw [← List.drop_eq_getElem_cons hi, List.take_append_drop]
  have hn : P[i] ∉ P.take i := by
    rw [e] at hd; have := (List.nodup_append.1 hd).2.2; exact fun hm => this _ hm _ (List.mem_cons_self ..) rfl
  refine ⟨hn, ?_⟩
  have h2 : pos (P.take i ++ P[i] :: P.drop (i + 1)) P[i] = i := by
    rw [pos_app hn]
    have : pos (P[i] :: P.drop (i + 1)) P[i] = 0 := by rw [U8, if_pos rfl]
    rw [this, List.length_take]; omega
  rw [← e] at h2; exact h2
end
end Go.Proofs.Ytjpacggpipflcaa

namespace Go.Proofs.Ytjpacggpipflcaa
noncomputable section
open Go Go.RowKit
set_option linter.unusedVariables false
set_option linter.unusedSimpArgs false
inductive Rc (S : Nat → List Nat) (r : Nat) : Nat → Prop
  | root : Rc S r r
  | step {x y : Nat} (h : Rc S r x) (hy : y ∈ S x) : Rc S r y
inductive Av (S : Nat → List Nat) (r z : Nat) : Nat → Prop
  | root (h : r ≠ z) : Av S r z r
  | step {x y : Nat} (h : Av S r z x) (hy : y ∈ S x) (hz : y ≠ z) : Av S r z y
inductive AvN (S : Nat → List Nat) (r z : Nat) : Nat → Nat → Prop
  | root (h : r ≠ z) (k : Nat) : AvN S r z k r
  | step {k x y : Nat} (h : AvN S r z k x) (hy : y ∈ S x) (hz : y ≠ z) : AvN S r z (k + 1) y
section
variable {S : Nat → List Nat} {r : Nat}
theorem rc_iff {x : Nat} : Rc S r x ↔ Rch S r x := by
  constructor
  · intro h
    induction h with
    | root => exact .refl _
    | step _ hy ih => exact ih.tail hy
  · intro h
    have key : ∀ a b, Rch S a b → Rc S r a → Rc S r b := by
      intro a b hab
      induction hab with
      | refl x => exact id
      | head hy _ ih => exact fun ha => ih (.step ha hy)
    exact key _ _ h .root
def wo (S : Nat → List Nat) (z : Nat) : Nat → List Nat := fun x => (S x).filter fun y => decide (y ≠ z)
theorem av_iff {z x : Nat} : Av S r z x ↔ r ≠ z ∧ Rch (wo S z) r x := by
  constructor
  · intro h
    induction h with
    | root h => exact ⟨h, .refl _⟩
    | step _ hy hz ih => exact ⟨ih.1, ih.2.tail (List.mem_filter.2 ⟨hy, by simpa using hz⟩)⟩
  · rintro ⟨hr, h⟩
    have key : ∀ a b, Rch (wo S z) a b → Av S r z a → Av S r z b := by
      intro a b hab
      induction hab with
      | refl x => exact id
      | head hy _ ih =>
        obtain ⟨h1, h2⟩ := List.mem_filter.1 hy; exact fun ha => ih (.step ha h1 (by simpa using h2))
    exact key _ _ h (.root hr)
theorem Av.rc {z x : Nat} (h : Av S r z x) : Rc S r x := by
  induction h with
  | root _ => exact .root
  | step _ hy _ ih => exact .step ih hy
theorem Av.ne {z x : Nat} (h : Av S r z x) : x ≠ z := by
  cases h with
  | root h => exact h
  | step _ _ hz => exact hz
theorem AvN.av {z k x : Nat} (h : AvN S r z k x) : Av S r z x := by
  induction h with
  | root h => exact .root h
  | step _ hy hz ih => exact .step ih hy hz
theorem AvN.up {z k x : Nat} (h : AvN S r z k x) : AvN S r z (k + 1) x := by
  induction h with
  | root h k => exact .root h _
  | step _ hy hz ih => exact .step ih hy hz
theorem AvN.mono {z k m x : Nat} (h : AvN S r z k x) (hm : k ≤ m) : AvN S r z m x := by
  obtain ⟨d, rfl⟩ := Nat.exists_eq_add_of_le hm; clear hm
  induction d with
  | zero => exact h
  | succ d ih => exact ih.up
theorem Av.avn {z x : Nat} (h : Av S r z x) : ∃ k, AvN S r z k x := by
  induction h with
  | root h => exact ⟨0, .root h 0⟩
  | step _ hy hz ih => obtain ⟨k, hk⟩ := ih; exact ⟨k + 1, .step hk hy hz⟩
theorem AvN.via {z k x : Nat} (h : AvN S r z k x) (y : Nat) : AvN S r y k x ∨ AvN S r z k y := by
  induction h with
  | root h k => by_cases hy : r = y
                · subst hy; exact .inr (.root h _)
                · exact .inl (.root hy _)
  | @step k x w h hy hz ih =>
    rcases ih with h1 | h1
    · by_cases hw : w = y
      · subst hw; exact .inr (.step h hy hz)
      · exact .inl (.step h1 hy hw)
    · exact .inr h1.up
theorem avn_bound (n : Nat) : ∃ K, ∀ z, z < n → ∀ x, x < n → Av S r z x → AvN S r z K x := by
  have one : ∀ z m, ∃ K, ∀ x, x < m → Av S r z x → AvN S r z K x := by
    intro z m
    induction m with
    | zero => exact ⟨0, fun x hx => absurd hx (Nat.not_lt_zero x)⟩
    | succ m ih =>
      obtain ⟨K, hK⟩ := ih
      by_cases h : Av S r z m
      · obtain ⟨k, hk⟩ := h.avn; refine ⟨max K k, fun x hx ha => ?_⟩; rcases Nat.lt_succ_iff_lt_or_eq.1 hx with h1 | rfl
        · exact (hK x h1 ha).mono (Nat.le_max_left ..)
        · exact hk.mono (Nat.le_max_right ..)
      · refine ⟨K, fun x hx ha => ?_⟩; rcases Nat.lt_succ_iff_lt_or_eq.1 hx with h1 | rfl
        · exact hK x h1 ha
        · exact absurd ha h
  have two : ∀ m, ∃ K, ∀ z, z < m → ∀ x, x < n → Av S r z x → AvN S r z K x := by
    intro m
    induction m with
    | zero => exact ⟨0, fun x hx => absurd hx (Nat.not_lt_zero x)⟩
    | succ m ih =>
      obtain ⟨K, hK⟩ := ih; obtain ⟨k, hk⟩ := one m n; refine ⟨max K k, fun z hz x hx ha => ?_⟩; rcases Nat.lt_succ_iff_lt_or_eq.1 hz with h1 | rfl
      · exact (hK z h1 x hx ha).mono (Nat.le_max_left ..)
      · exact (hk x hx ha).mono (Nat.le_max_right ..)
  exact two n
end
inductive UpTo (par : Nat → Int) : Nat → Nat → Prop
  | refl (x : Nat) : UpTo par x x
  | up {x y z : Nat} (h : par x = (y : Int)) (t : UpTo par y z) : UpTo par x z
inductive Fw (S : Nat → List Nat) (at_ : Nat → Nat) (u : Nat) : Nat → Prop
  | refl : Fw S at_ u u
  | step {v w : Nat} (h : Fw S at_ u v) (hw : w ∈ S v) (hl : at_ v < at_ w) : Fw S at_ u w
section
variable {S : Nat → List Nat} {at_ : Nat → Nat} {par : Nat → Int}
theorem Fw.le {u w : Nat} (h : Fw S at_ u w) : at_ u ≤ at_ w := by
  induction h with
  | refl => exact Nat.le_refl _
  | step _ _ hl ih => omega
theorem Fw.trans {u v w : Nat} (h : Fw S at_ u v) (k : Fw S at_ v w) : Fw S at_ u w := by
  induction k with
  | refl => exact h
  | step _ hw hl ih => exact .step ih hw hl
theorem Fw.av {r d u w : Nat} (h : Fw S at_ u w) (ha : Av S r d u) (hd : at_ d < at_ u) : Av S r d w := by
  induction h with
  | refl => exact ha
  | @step v w h hw hl ih => exact .step ih hw (by rintro rfl; have := h.le; omega)
theorem UpTo.trans {x y z : Nat} (h : UpTo par x y) (k : UpTo par y z) : UpTo par x z := by
  induction h with
  | refl x => exact k
  | up h _ ih => exact .up h (ih k)
theorem anc_up {x p z : Nat} (h : par x = (p : Int)) : UpTo par x z ↔ z = x ∨ UpTo par p z := by
  constructor
  · intro k
    cases k with
    | refl => exact .inl rfl
    | up h' t => rw [h] at h'; cases Int.ofNat.inj h'; exact .inr t
  · rintro (rfl | k)
    · exact .refl _
    · exact .up h k
theorem Th {x z : Nat} (h : ∀ p : Nat, par x ≠ (p : Int)) : UpTo par x z ↔ z = x := by
  constructor
  · intro k
    cases k with
    | refl => rfl
    | up h' t => exact absurd h' (h _)
  · rintro rfl; exact .refl _
structure Inv (S : Nat → List Nat) (r n : Nat) (at_ : Nat → Nat) (par : Nat → Int) : Prop where
  top : par r = -1
  kind : ∀ x, x < n → par x = -2 ∨ x = r ∨ ∃ z : Nat, par x = (z : Int)
  up : ∀ x, x < n → ∀ z : Nat, par x = (z : Int) → z < n ∧ par z ≠ -2 ∧ at_ z < at_ x ∧ Fw S at_ z x
  rc : ∀ x, x < n → par x ≠ -2 → Rc S r x
  all : ∀ x, x < n → par x ≠ -2 → ∀ d, ¬ UpTo par x d → Av S r d x
end
section
variable {S : Nat → List Nat} {at_ : Nat → Nat} {par : Nat → Int} {r n : Nat}
theorem Inv.anc (h : Inv S r n at_ par) {x z : Nat} (k : UpTo par x z) (hx : x < n) (hp : par x ≠ -2) : z < n ∧ par z ≠ -2 ∧ at_ z ≤ at_ x ∧ Fw S at_ z x := by
  induction k with
  | refl x => exact ⟨hx, hp, Nat.le_refl _, .refl⟩
  | @up x y z hxy t ih =>
    obtain ⟨h1, h2, h3, h4⟩ := h.up x hx y hxy; obtain ⟨i1, i2, i3, i4⟩ := ih h1 h2; exact ⟨i1, i2, by omega, i4.trans h4⟩
theorem Inv.root_anc (h : Inv S r n at_ par) {z : Nat} : UpTo par r z ↔ z = r := Th fun p hp => by rw [h.top] at hp; omega
theorem Inv.strict (h : Inv S r n at_ par) {x z : Nat} (k : UpTo par x z) (hx : x < n) (hp : par x ≠ -2) : z = x ∨ at_ z < at_ x := by
  cases k with
  | refl => exact .inl rfl
  | up hxy t =>
    obtain ⟨h1, h2, h3, h4⟩ := h.up x hx _ hxy; obtain ⟨i1, i2, i3, i4⟩ := h.anc t h1 h2; exact .inr (by omega)
theorem Inv.antisymm (h : Inv S r n at_ par) {x z : Nat} (k : UpTo par x z) (m : UpTo par z x) (hx : x < n) (hp : par x ≠ -2) : z = x := by
  rcases h.strict k hx hp with rfl | h1
  · rfl
  · obtain ⟨i1, i2, i3, i4⟩ := h.anc k hx hp; have := (h.anc m i1 i2).2.2.1; omega
def MeetAt (par : Nat → Int) (a b m : Nat) : Prop := ∀ w, UpTo par m w ↔ UpTo par a w ∧ UpTo par b w
theorem Wu {a : Nat} : MeetAt par a a a := fun w => by simp
theorem meet_swap {a b m : Nat} (h : MeetAt par a b m) : MeetAt par b a m := fun w => by rw [h w]; exact And.comm
theorem Inv.meet_left (h : Inv S r n at_ par) (hinj : ∀ x y, x < n → y < n → par x ≠ -2 → par y ≠ -2 → at_ x = at_ y → x = y) {a b p m : Nat} (ha : a < n) (hpa : par a ≠ -2) (hb : b < n) (hpb : par b ≠ -2) (hab : a ≠ b) (hl : at_ b ≤ at_ a) (hp : par a = (p : Int)) (k : MeetAt par p b m) : MeetAt par a b m := fun w => by
  rw [k w]
  constructor
  · rintro ⟨h1, h2⟩; exact ⟨.up hp h1, h2⟩
  · rintro ⟨h1, h2⟩; rcases (anc_up hp).1 h1 with rfl | h1
    · exfalso
      rcases h.strict h2 hb hpb with h3 | h3
      · exact hab h3
      · omega
    · exact ⟨h1, h2⟩
end
section
variable {S : Nat → List Nat} {at_ : Nat → Nat} {par : Nat → Int} {r n : Nat}
def Hz (par : Nat → Int) (y : Nat) (v : Int) : Nat → Int := fun x => if x = y then v else par x
def Best (S : Nat → List Nat) (n : Nat) (par : Nat → Int) (y z : Nat) : Prop := ∀ w, UpTo par z w ↔ ∀ p, p < n → y ∈ S p → par p ≠ -2 → UpTo par p w
theorem Se {y : Nat} {v : Int} {x z : Nat} (k : UpTo par x z) (hy : ¬ UpTo par x y) : UpTo (Hz par y v) x z := by
  induction k with
  | refl x => exact .refl _
  | @up x q z h t ih =>
    have hxy : x ≠ y := by rintro rfl; exact hy (.refl _)
    refine .up (y := q) ?_ (ih fun k => hy (.up h k)); unfold Hz; rw [if_neg hxy]; exact h
theorem anc_upd_low {y : Nat} {v : Int} {x : Nat} (k : UpTo par x y) : UpTo (Hz par y v) x y := by
  induction k with
  | refl x => exact .refl _
  | @up x q z h t ih =>
    by_cases hxy : x = z
    · subst hxy; exact .refl _
    · refine .up (y := q) ?_ ih; unfold Hz; rw [if_neg hxy]; exact h
theorem anc_upd_inv {y : Nat} {v : Int} {x w : Nat} (k : UpTo (Hz par y v) x w) : UpTo par x w ∨ (UpTo par x y ∧ UpTo (Hz par y v) y w) := by
  induction k with
  | refl x => exact .inl (.refl _)
  | @up x q w h t ih =>
    by_cases hxy : x = y
    · subst hxy; exact .inr ⟨.refl _, .up h t⟩
    · unfold Hz at h; rw [if_neg hxy] at h; rcases ih with h1 | ⟨h1, h2⟩
      · exact .inl (.up h h1)
      · exact .inr ⟨.up h h1, h2⟩
theorem low_or {y : Nat} {v : Int} {x d : Nat} (k : UpTo par x y) (hd : UpTo par x d) : UpTo par y d ∨ UpTo (Hz par y v) x d := by
  induction k with
  | refl x => exact .inl hd
  | @up x q y hq t ih =>
    by_cases e : x = y
    · subst e; exact .inl hd
    · rcases (anc_up hq).1 hd with rfl | k
      · exact .inr (.refl _)
      · rcases ih k with h1 | h1
        · exact .inl h1
        · exact .inr (.up (y := q) (by unfold Hz; rw [if_neg e]; exact hq) h1)
structure Better (S : Nat → List Nat) (r n : Nat) (at_ : Nat → Nat) (par : Nat → Int) (y z : Nat) : Prop where
  inv : Inv S r n at_ par
  hy : y < n
  hr : y ≠ r
  hz : z < n
  best : Best S n par y z
  fwd : ∃ p, p < n ∧ y ∈ S p ∧ par p ≠ -2 ∧ at_ p < at_ y
variable {y z : Nat}
theorem Better.zlt (h : Better S r n at_ par y z) : UpTo par z z ∧ par z ≠ -2 ∧ at_ z < at_ y ∧ Fw S at_ z y := by
  obtain ⟨p, hp, hyp, hpp, hl⟩ := h.fwd; obtain ⟨h1, h2, h3, h4⟩ := h.inv.anc ((h.best z).1 (.refl _) p hp hyp hpp) hp hpp; exact ⟨.refl _, h2, by omega, .step h4 hyp hl⟩
theorem Better.above (h : Better S r n at_ par y z) {w : Nat} : UpTo (Hz par y z) z w ↔ UpTo par z w := by
  obtain ⟨_, h2, h3, _⟩ := h.zlt
  have hn : ¬ UpTo par z y := fun k => by have := (h.inv.anc k h.hz h2).2.2.1; omega
  constructor
  · intro k; rcases anc_upd_inv k with h1 | ⟨h1, _⟩
    · exact h1
    · exact absurd h1 hn
  · intro k; exact Se k hn
theorem Better.here (h : Better S r n at_ par y z) {w : Nat} : UpTo (Hz par y z) y w ↔ w = y ∨ UpTo par z w := by
  rw [anc_up (p := z) (by simp [Hz]), h.above]
theorem Better.av_here (h : Better S r n at_ par y z) {d : Nat} (hd : ¬ UpTo (Hz par y z) y d) : Av S r d y := by
  rw [h.here] at hd; have h1 : ¬ ∀ p, p < n → y ∈ S p → par p ≠ -2 → UpTo par p d := fun hh => hd (.inr ((h.best d).2 hh)); simp only [Classical.not_forall] at h1; obtain ⟨p, hp, hyp, hpp, hnp⟩ := h1; exact .step (h.inv.all p hp hpp d hnp) hyp fun e => hd (.inl e.symm)
theorem Better.inv' (h : Better S r n at_ par y z) : Inv S r n at_ (Hz par y z) := by
  obtain ⟨hzz, hz2, hzl, hzf⟩ := h.zlt; obtain ⟨p, hp, hyp, hpp, hl⟩ := h.fwd
  have hne : ∀ x, Hz par y z x ≠ -2 → x = y ∨ par x ≠ -2 := fun x hx => by
    by_cases e : x = y
    · exact .inl e
    · unfold Hz at hx; rw [if_neg e] at hx; exact .inr hx
  have hyv : Hz par y z y = (z : Int) := by simp [Hz]
  have hyo : ∀ x, x ≠ y → Hz par y z x = par x := fun x e => by unfold Hz; rw [if_neg e]
  refine ⟨by rw [hyo _ (Ne.symm h.hr)]; exact h.inv.top, fun x hx => ?_, fun x hx w hw => ?_, fun x hx hxp => ?_, fun x hx hxp d hd => ?_⟩
  · by_cases e : x = y
    · subst e; exact .inr (.inr ⟨z, hyv⟩)
    · rw [hyo x e]; exact h.inv.kind x hx
  · have hzn : ∀ w, par w ≠ -2 → Hz par y z w ≠ -2 := fun w hw => by
      by_cases e : w = y
      · subst e; rw [hyv]; omega
      · rw [hyo w e]; exact hw
    by_cases e : x = y
    · subst e; rw [hyv] at hw
      cases Int.ofNat.inj hw
      exact ⟨h.hz, hzn _ hz2, hzl, hzf⟩
    · rw [hyo x e] at hw; obtain ⟨h1, h2, h3, h4⟩ := h.inv.up x hx w hw; exact ⟨h1, hzn _ h2, h3, h4⟩
  · rcases hne x hxp with rfl | h1
    · exact .step (h.inv.rc p hp hpp) hyp
    · exact h.inv.rc x hx h1
  · by_cases e : x = y
    · subst e; exact h.av_here hd
    · rw [hyo x e] at hxp
      by_cases hxd : UpTo par x d
      ·
        by_cases hxy : UpTo par x y
        · have hyd : ¬ UpTo (Hz par y z) y d := fun k => hd ((anc_upd_low hxy).trans k); have hav := h.av_here hyd; have hf := (h.inv.anc hxy hx hxp).2.2.2
          have hdy : UpTo par y d := by
            rcases low_or (v := (z : Int)) hxy hxd with h1 | h1
            · exact h1
            · exact absurd h1 hd
          by_cases hpy : par y = -2
          ·
            have : d = y := by
              refine (Th (par := par) fun p hp => ?_).1 hdy; rw [hpy] at hp; omega
            subst this; exact absurd (.refl _) hyd
          · rcases h.inv.strict hdy h.hy hpy with rfl | hlt
            · exact absurd (.refl _) hyd
            · exact hf.av hav hlt
        · exact absurd (Se hxd hxy) hd
      · exact h.inv.all x hx hxp d hxd
end
end
end Go.Proofs.Ytjpacggpipflcaa

namespace Go.Proofs.Ytjpacggpipflcaa
noncomputable section
open Go Go.RowKit
set_option linter.unusedVariables false
set_option linter.unusedSimpArgs false
section
variable {S : Nat → List Nat} {at_ : Nat → Nat} {par : Nat → Int} {r n : Nat}
def QB (S : Nat → List Nat) (r n : Nat) (par : Nat → Int) (b : Nat → Nat) : Prop := ∀ x, x < n → par x ≠ -2 → ∀ z, AvN S r z (b x) x → ¬ UpTo par x z
def Full (S : Nat → List Nat) (r n : Nat) (par : Nat → Int) : Prop := ∀ x, x < n → Rc S r x → par x ≠ -2
def Exact (S : Nat → List Nat) (r n : Nat) (par : Nat → Int) : Prop := ∀ x, x < n → par x ≠ -2 → ∀ d, UpTo par x d ↔ ¬ Av S r d x
theorem qb_zero (h : Inv S r n at_ par) : QB S r n par fun _ => 0 := fun x hx hp z hz k => by
  cases hz with
  | root hr _ => exact hr (h.root_anc.1 k).symm
theorem rc_lt (hS : ∀ x, x < n → ∀ w ∈ S x, w < n) (hr : r < n) {x : Nat} (h : Rc S r x) : x < n := by
  induction h with
  | root => exact hr
  | step _ hy ih => exact hS _ ih _ hy
theorem Better.qb {y z k : Nat} {b : Nat → Nat} (h : Better S r n at_ par y z) (hS : ∀ x, x < n → ∀ w ∈ S x, w < n) (hrn : r < n) (full : Full S r n par) (hb : ∀ x, x < n → k ≤ b x ∧ b x ≤ k + 1) (q : QB S r n par b) :
    QB S r n (Hz par y z) fun x => if x = y then k + 1 else b x := by
  have here : ∀ w, AvN S r w (k + 1) y → ¬ UpTo (Hz par y z) y w := fun w hw hu => by
    rcases h.here.1 hu with rfl | hu
    · exact hw.av.ne rfl
    · cases hw with
      | root hr _ => exact h.hr rfl
      | @step _ p _ hp hyp hne =>
        have hpn := rc_lt hS hrn hp.av.rc; have hpp := full p hpn hp.av.rc; exact q p hpn hpp w (hp.mono (hb p hpn).1) ((h.best w).1 hu p hpn hyp hpp)
  intro x hx hxp w hw hu
  dsimp only at hw
  by_cases e : x = y
  · subst e; rw [if_pos rfl] at hw; exact here w hw hu
  · rw [if_neg e] at hw; unfold Hz at hxp; rw [if_neg e] at hxp; rcases anc_upd_inv hu with h1 | ⟨h1, h2⟩
    · exact q x hx hxp w hw h1
    · rcases hw.via y with h3 | h3
      · exact q x hx hxp y h3 h1
      · exact here w (h3.mono (hb x hx).2) h2
theorem exact_of (h : Inv S r n at_ par) {K : Nat} (hK : ∀ z, z < n → ∀ x, x < n → Av S r z x → AvN S r z K x) (q : QB S r n par fun _ => K) : Exact S r n par := fun x hx hp d => by
  constructor
  · intro hu ha; exact q x hx hp d (hK d (h.anc hu hx hp).1 x hx ha) hu
  · intro ha; exact Classical.byContradiction fun hn => ha (h.all x hx hp d hn)
theorem Better.same {y z : Nat} (h : Better S r n at_ par y z) (hS : ∀ x, x < n → ∀ w ∈ S x, w < n) (hrn : r < n) (full : Full S r n par) (hy2 : par y ≠ -2) (ex : Exact S r n par) : par y = (z : Int) := by
  obtain ⟨hzz, hz2, hzl, hzf⟩ := h.zlt; rcases h.inv.kind y h.hy with h1 | h1 | ⟨q, hq⟩
  · exact absurd h1 hy2
  · exact absurd h1 h.hr
  · obtain ⟨q1, q2, q3, q4⟩ := h.inv.up y h.hy q hq
    have key : ∀ w, UpTo par z w ↔ UpTo par q w := fun w => by
      rw [h.best w]
      constructor
      · intro hall
        have hwy : ¬ Av S r w y := fun ha => by
          cases ha with
          | root _ => exact h.hr rfl
          | @step p _ hp hyp hne =>
            have hpn := rc_lt hS hrn hp.rc; have hpp := full p hpn hp.rc; exact (ex p hpn hpp w).1 (hall p hpn hyp hpp) hp
        rcases (anc_up hq).1 ((ex y h.hy hy2 w).2 hwy) with rfl | hu
        · have := (h.inv.anc ((h.best _).2 hall) h.hz hz2).2.2.1; omega
        · exact hu
      · intro hu p hp hyp hpp; have hwy : UpTo par y w := .up hq hu; refine (ex p hp hpp w).2 fun ha => ?_
        have hne : y ≠ w := by rintro rfl; have := (h.inv.anc hu q1 q2).2.2.1; omega
        exact (ex y h.hy hy2 w).1 hwy (.step ha hyp hne)
    have := h.inv.antisymm ((key q).2 (.refl _)) ((key z).1 (.refl _)) h.hz hz2; rw [hq, this]
theorem exact_fix (h : Inv S r n at_ par) (hS : ∀ x, x < n → ∀ w ∈ S x, w < n) (hrn : r < n) (full : Full S r n par) (fix : ∀ y, y < n → y ≠ r → Rc S r y → ∃ z : Nat, par y = (z : Int) ∧ Best S n par y z) : Exact S r n par := fun x hx hp d => by
  constructor
  · intro hu ha
    induction ha with
    | root hne => exact hne (h.root_anc.1 hu).symm
    | @step p y hp' hyp hne ih =>
      have hpn := rc_lt hS hrn hp'.rc; have hpp := full p hpn hp'.rc
      by_cases e : y = r
      · subst e; exact hne (h.root_anc.1 hu).symm
      · obtain ⟨z, hz, hb⟩ := fix y hx e (.step hp'.rc hyp); rcases (anc_up hz).1 hu with rfl | hu
        · exact hne rfl
        · exact ih hpn hpp ((hb d).1 hu p hpn hyp hpp)
  · intro ha; exact Classical.byContradiction fun hn => ha (h.all x hx hp d hn)
end
def Bl (t : List Int) : Nat → Int := fun x => t.getD x 0
theorem Z4 {t : List Int} {y : Nat} {v : Int} (hy : y < t.length) : Bl (t.set y v) = Hz (Bl t) y v := by
  funext x
  unfold Bl Hz
  by_cases e : x = y
  · subst e; simp [List.getD, hy]
  · simp [List.getD, e, Ne.symm e]
open Classical in
def Hu (S : Nat → List Nat) (n : Nat) (t : List Int) (y : Nat) : Nat := if h : ∃ z, z < n ∧ Best S n (Bl t) y z then Classical.choose h else 0
def M4 (S : Nat → List Nat) (n : Nat) (P : List Nat) (t : List Int) : Nat → List Int
  | 0 => t
  | i + 1 => (M4 S n P t i).set (P.getD i 0) (Hu S n (M4 S n P t i) (P.getD i 0) : Int)
def Ta (S : Nat → List Nat) (n : Nat) (P : List Nat) (t : List Int) : Nat → List Int
  | 0 => t
  | j + 1 => M4 S n P (Ta S n P t j) P.length
def E5 (n r : Nat) : List Int := (List.replicate n (-2 : Int)).set r (-1)
structure Ordered (S : Nat → List Nat) (r n : Nat) (P : List Nat) : Prop where
  hr : r < n
  hS : ∀ x, x < n → ∀ w ∈ S x, w < n
  nodup : (r :: P).Nodup
  mem : ∀ x, x ∈ r :: P ↔ Rc S r x
  fwd : ∀ i, i < P.length → ∃ p, p ∈ r :: P.take i ∧ P.getD i 0 ∈ S p
section
variable {S : Nat → List Nat} {r n : Nat} {P : List Nat}
theorem Ordered.lt (o : Ordered S r n P) {x : Nat} (h : x ∈ r :: P) : x < n := rc_lt o.hS o.hr ((o.mem x).1 h)
theorem J3 {i : Nat} (hi : i < P.length) : P.getD i 0 ∈ P := by rw [Ak _ _ _ hi]; exact List.getElem_mem hi
theorem Ordered.at_lt (o : Ordered S r n P) {i : Nat} (hi : i < P.length) {p : Nat} (hp : p ∈ r :: P.take i) : pos (r :: P) p < pos (r :: P) (P.getD i 0) := by
  have hd := o.nodup
  have h1 : pos (r :: P) (P.getD i 0) = i + 1 := by
    have := (Ku hd (i := i + 1) (by simpa using hi)).2; rw [Ak _ _ _ hi]
    simpa using this
  rw [h1]; obtain ⟨j, hj, rfl⟩ := List.getElem_of_mem hp
  have hj' : j < i + 1 := by simp at hj; omega
  have hjl : j < (r :: P).length := by simp; omega
  have e : (r :: P.take i)[j] = (r :: P)[j] := by
    cases j with
    | zero => rfl
    | succ j => simp
  rw [e, (Ku hd hjl).2]; exact hj'
theorem inv0 (o : Ordered S r n P) : Inv S r n (pos (r :: P)) (Bl (E5 n r)) ∧ (E5 n r).length = n ∧ Bl (E5 n r) r ≠ -2 := by
  have hlen : (E5 n r).length = n := by simp [E5]
  have hr := o.hr
  have at_ : ∀ x, x < n → Bl (E5 n r) x = if x = r then -1 else -2 := fun x hx => by
    unfold Bl E5
    by_cases e : x = r
    · subst e; simp [List.getD, hx]
    · simp [List.getD, hx, e, Ne.symm e]
  have hno : ∀ x, x < n → ∀ p : Nat, Bl (E5 n r) x ≠ (p : Int) := fun x hx p hp => by rw [at_ x hx] at hp; split at hp <;> omega
  refine ⟨⟨by rw [at_ r hr, if_pos rfl], fun x hx => ?_, fun x hx z hz => absurd hz (hno x hx z), fun x hx hp => ?_, fun x hx hp d hd => ?_⟩, hlen, by rw [at_ r hr, if_pos rfl]; omega⟩
  · by_cases e : x = r
    · exact .inr (.inl e)
    · exact .inl (by rw [at_ x hx, if_neg e])
  · by_cases e : x = r
    · subst e; exact .root
    · exact absurd (by rw [at_ x hx, if_neg e]) hp
  · by_cases e : x = r
    · subst e; exact .root (fun e => hd (by rw [e]; exact .refl _))
    · exact absurd (by rw [at_ x hx, if_neg e]) hp
structure Ready (S : Nat → List Nat) (r n : Nat) (P : List Nat) (t : List Int) (i : Nat) : Prop where
  inv : Inv S r n (pos (r :: P)) (Bl t)
  len : t.length = n
  done : ∀ x ∈ r :: P.take i, Bl t x ≠ -2
theorem Inv.meets {at_ : Nat → Nat} {par : Nat → Int} (h : Inv S r n at_ par) (hinj : ∀ x y, x < n → y < n → par x ≠ -2 → par y ≠ -2 → at_ x = at_ y → x = y) (hr : at_ r = 0) : ∀ m a b, at_ a + at_ b ≤ m → a < n → b < n → par a ≠ -2 → par b ≠ -2 → ∃ c, MeetAt par a b c ∧ c < n ∧ par c ≠ -2 := by
  intro m
  induction m with
  | zero =>
    intro a b hm ha hb hpa hpb; have : a = b := hinj a b ha hb hpa hpb (by omega); subst this; exact ⟨a, Wu, ha, hpa⟩
  | succ m ih =>
    have go : ∀ a b, at_ a + at_ b ≤ m + 1 → a < n → b < n → par a ≠ -2 → par b ≠ -2 → at_ b ≤ at_ a → ∃ c, MeetAt par a b c ∧ c < n ∧ par c ≠ -2 := fun a b hm ha hb hpa hpb hl => by
      by_cases e : a = b
      · subst e; exact ⟨a, Wu, ha, hpa⟩
      · rcases h.kind a ha with h1 | h1 | ⟨p, hp⟩
        · exact absurd h1 hpa
        · subst h1; exact absurd (hinj a b ha hb hpa hpb (by omega)) e
        · obtain ⟨p1, p2, p3, p4⟩ := h.up a ha p hp; obtain ⟨c, hc, hc2⟩ := ih p b (by omega) p1 hb p2 hpb; exact ⟨c, h.meet_left hinj ha hpa hb hpb e hl hp hc, hc2⟩
    intro a b hm ha hb hpa hpb; rcases Nat.le_total (at_ b) (at_ a) with hl | hl
    · exact go a b hm ha hb hpa hpb hl
    · obtain ⟨c, hc, hc2⟩ := go b a (by omega) hb ha hpb hpa hl; exact ⟨c, meet_swap hc, hc2⟩
theorem Ready.inj (o : Ordered S r n P) {t : List Int} {i : Nat} (h : Ready S r n P t i) : ∀ x y, x < n → y < n → Bl t x ≠ -2 → Bl t y ≠ -2 → pos (r :: P) x = pos (r :: P) y → x = y := fun x y hx hy hpx hpy he => by
  have hm : ∀ x, x < n → Bl t x ≠ -2 → x ∈ r :: P := fun x hx hp => (o.mem x).2 (h.inv.rc x hx hp)
  have back : ∀ x ∈ r :: P, (r :: P).getD (pos (r :: P) x) 0 = x := fun x hx => by
    obtain ⟨j, hj, rfl⟩ := List.getElem_of_mem hx; rw [(Ku o.nodup hj).2, Ak _ _ _ hj]
  rw [← back x (hm x hx hpx), ← back y (hm y hy hpy), he]
theorem pos_root : pos (r :: P) r = 0 := by rw [U8, if_pos rfl]
theorem Ready.meetAll (o : Ordered S r n P) {t : List Int} {i : Nat} (h : Ready S r n P t i) : ∀ l : List Nat, (∀ p ∈ l, p < n ∧ Bl t p ≠ -2) → l ≠ [] → ∃ z, z < n ∧ Bl t z ≠ -2 ∧ ∀ w, UpTo (Bl t) z w ↔ ∀ p ∈ l, UpTo (Bl t) p w := by
  intro l
  induction l with
  | nil => intro _ hn; exact absurd rfl hn
  | cons p l ih =>
    intro hl _; obtain ⟨hp1, hp2⟩ := hl p (List.mem_cons_self ..)
    by_cases hl0 : l = []
    · subst hl0; exact ⟨p, hp1, hp2, fun w => by simp⟩
    · obtain ⟨z, hz1, hz2, hz3⟩ := ih (fun q hq => hl q (List.mem_cons_of_mem _ hq)) hl0; obtain ⟨c, hc1, hc2, hc3⟩ := h.inv.meets (h.inj o) pos_root _ p z (Nat.le_refl _) hp1 hz1 hp2 hz2; exact ⟨c, hc2, hc3, fun w => by rw [hc1 w, hz3 w]; simp⟩
theorem Ready.best (o : Ordered S r n P) {t : List Int} {i : Nat} (h : Ready S r n P t i) (hi : i < P.length) : Better S r n (pos (r :: P)) (Bl t) (P.getD i 0) (Hu S n t (P.getD i 0)) := by
  have hy := J3 hi; have hyr : P.getD i 0 ≠ r := fun e => (List.nodup_cons.1 o.nodup).1 (e ▸ hy); have hyn := o.lt (List.mem_cons_of_mem _ hy); obtain ⟨p, hp, hyp⟩ := o.fwd i hi; have hp2 := h.done p hp
  have hpP : p ∈ r :: P := by
    rcases List.mem_cons.1 hp with rfl | hp
    · exact List.mem_cons_self ..
    · exact List.mem_cons_of_mem _ (List.mem_of_mem_take hp)
  have hpn := o.lt hpP
  have hex : ∃ z, z < n ∧ Best S n (Bl t) (P.getD i 0) z := by
    classical
    obtain ⟨z, hz1, hz2, hz3⟩ := h.meetAll o ((List.range n).filter fun p => decide (P.getD i 0 ∈ S p ∧ Bl t p ≠ -2)) (fun p hp => by
      obtain ⟨h1, h2⟩ := List.mem_filter.1 hp
      exact ⟨List.mem_range.1 h1, (of_decide_eq_true h2).2⟩) (fun e => by
      have : p ∈ (List.range n).filter fun p => decide (P.getD i 0 ∈ S p ∧ Bl t p ≠ -2) := List.mem_filter.2 ⟨List.mem_range.2 hpn, decide_eq_true ⟨hyp, hp2⟩⟩
      rw [e] at this; cases this)
    refine ⟨z, hz1, fun w => ?_⟩; rw [hz3 w]
    constructor
    · intro k p hp hyp hpp; exact k p (List.mem_filter.2 ⟨List.mem_range.2 hp, decide_eq_true ⟨hyp, hpp⟩⟩)
    · intro k p hp; obtain ⟨h1, h2⟩ := List.mem_filter.1 hp; exact k p (List.mem_range.1 h1) (of_decide_eq_true h2).1 (of_decide_eq_true h2).2
  have hb : Hu S n t (P.getD i 0) < n ∧ Best S n (Bl t) (P.getD i 0) (Hu S n t (P.getD i 0)) := by
    unfold Hu; rw [dif_pos hex]; exact Classical.choose_spec hex
  exact ⟨h.inv, hyn, hyr, hb.1, hb.2, p, hpn, hyp, hp2, o.at_lt hi hp⟩
theorem Ready.best_eq (o : Ordered S r n P) {t : List Int} {i : Nat} (h : Ready S r n P t i) (hi : i < P.length) {z : Nat} (hz : z < n) (hz2 : Bl t z ≠ -2) (hb : Best S n (Bl t) (P.getD i 0) z) : z = Hu S n t (P.getD i 0) := by
  have b := h.best o hi; exact (h.inv.antisymm ((hb _).2 ((b.best _).1 (.refl _))) ((b.best _).2 ((hb _).1 (.refl _))) hz hz2).symm
theorem Ready.next (o : Ordered S r n P) {t : List Int} {i : Nat} (h : Ready S r n P t i) (hi : i < P.length) : Ready S r n P (t.set (P.getD i 0) (Hu S n t (P.getD i 0) : Int)) (i + 1) := by
  have b := h.best o hi; have e := Z4 (t := t) (y := P.getD i 0) (v := (Hu S n t (P.getD i 0) : Int)) (by rw [h.len]; exact b.hy); refine ⟨by rw [e]; exact b.inv', by rw [List.length_set]; exact h.len, fun x hx => ?_⟩; rw [e]; unfold Hz
  split
  · omega
  · rename_i hne
    refine h.done x ?_; rcases List.mem_cons.1 hx with rfl | hx
    · exact List.mem_cons_self ..
    · rw [List.take_succ_eq_append_getElem hi] at hx; rcases List.mem_append.1 hx with hx | hx
      · exact List.mem_cons_of_mem _ hx
      · rw [List.mem_singleton, ← Ak _ _ 0 hi] at hx; exact absurd hx hne
theorem Ready.more (o : Ordered S r n P) {t : List Int} (h : Ready S r n P t P.length) (i : Nat) : Ready S r n P t i :=
  ⟨h.inv, h.len, fun x hx => h.done x (by
    rw [List.take_length]; rcases List.mem_cons.1 hx with rfl | hx
    · exact List.mem_cons_self ..
    · exact List.mem_cons_of_mem _ (List.mem_of_mem_take hx))⟩
theorem Ready.full (o : Ordered S r n P) {t : List Int} (h : Ready S r n P t P.length) : Full S r n (Bl t) := fun x hx hr => h.done x (by rw [List.take_length]; exact (o.mem x).2 hr)
theorem Ready.round (o : Ordered S r n P) {t : List Int} (h : Ready S r n P t 0) : ∀ i, i ≤ P.length → Ready S r n P (M4 S n P t i) i := by
  intro i
  induction i with
  | zero => intro _; exact h
  | succ i ih => intro hi; exact (ih (by omega)).next o (by omega)
theorem ready0 (o : Ordered S r n P) : Ready S r n P (E5 n r) 0 := by
  obtain ⟨h1, h2, h3⟩ := inv0 o; exact ⟨h1, h2, fun x hx => by simp at hx; subst hx; exact h3⟩
theorem Ready.rounds (o : Ordered S r n P) : ∀ j, Ready S r n P (Ta S n P (E5 n r) j) 0 := by
  intro j
  induction j with
  | zero => exact ready0 o
  | succ j ih => exact ((ih.round o) P.length (Nat.le_refl _)).more o 0
theorem Ready.rounds' (o : Ordered S r n P) (j : Nat) : Ready S r n P (Ta S n P (E5 n r) (j + 1)) P.length := (Ready.rounds o j).round o P.length (Nat.le_refl _)
theorem qb_round (o : Ordered S r n P) {t : List Int} {k : Nat} (h : Ready S r n P t P.length) (q : QB S r n (Bl t) fun _ => k) : QB S r n (Bl (M4 S n P t P.length)) fun _ => k + 1 := by
  have key : ∀ i, i ≤ P.length → QB S r n (Bl (M4 S n P t i)) (fun x => if x ∈ P.take i then k + 1 else k) ∧ Full S r n (Bl (M4 S n P t i)) := by
    intro i
    induction i with
    | zero => intro _; exact ⟨by simpa [M4] using q, h.full o⟩
    | succ i ih =>
      intro hi; obtain ⟨q1, f1⟩ := ih (by omega); have rd := (h.more o 0).round o i (by omega); have b := rd.best o (by omega); have e := Z4 (t := M4 S n P t i) (y := P.getD i 0) (v := (Hu S n (M4 S n P t i) (P.getD i 0) : Int)) (by rw [rd.len]; exact b.hy)
      constructor
      · show QB S r n (Bl ((M4 S n P t i).set _ _)) _
        rw [e]; have := b.qb (k := k) o.hS o.hr f1 (fun x _ => by split <;> omega) q1; intro x hx hp z hz; refine this x hx hp z ?_
        dsimp only at hz ⊢
        rw [List.take_succ_eq_append_getElem (by omega : i < P.length)] at hz
        by_cases e1 : x = P.getD i 0
        · rw [if_pos e1]; rwa [if_pos (List.mem_append.2 (.inr (List.mem_singleton.2 (by rw [e1, Ak _ _ _ (by omega : i < P.length)]))))] at hz
        · rw [if_neg e1]
          by_cases e2 : x ∈ P.take i
          · rw [if_pos e2]; rwa [if_pos (List.mem_append.2 (.inl e2))] at hz
          · rw [if_neg e2]
            rwa [if_neg (fun hm => by
              rcases List.mem_append.1 hm with hm | hm
              · exact e2 hm
              · rw [List.mem_singleton, ← Ak _ _ 0 (by omega : i < P.length)] at hm; exact e1 hm)] at hz
      · show Full S r n (Bl ((M4 S n P t i).set _ _))
        rw [e]; intro x hx hr; unfold Hz
        split
        · omega
        · exact f1 x hx hr
  have q1 := (key P.length (Nat.le_refl _)).1; rw [List.take_length] at q1; have rd := (h.more o 0).round o P.length (Nat.le_refl _); intro x hx hp z hz; refine q1 x hx hp z ?_
  dsimp only at hz ⊢
  by_cases e : x ∈ P
  · rw [if_pos e]; exact hz
  · rw [if_neg e]
    have hxr : x = r := by
      rcases List.mem_cons.1 ((o.mem x).2 (rd.inv.rc x hx hp)) with h1 | h1
      · exact h1
      · exact absurd h1 e
    subst hxr; exact .root hz.av.ne k
def Mt (S : Nat → List Nat) (n : Nat) (P : List Nat) (t : List Int) : Prop := ∀ i, i < P.length → Bl t (P.getD i 0) = (Hu S n t (P.getD i 0) : Int)
theorem Nk {t : List Int} (o : Ordered S r n P) (hl : t.length = n) (h : Mt S n P t) : ∀ i, i ≤ P.length → M4 S n P t i = t := by
  intro i
  induction i with
  | zero => intro _; rfl
  | succ i ih =>
    intro hi; unfold M4; rw [ih (by omega), ← h i (by omega)]
    have hlt : P.getD i 0 < t.length := by rw [hl]; exact o.lt (List.mem_cons_of_mem _ (J3 (by omega)))
    unfold Bl; rw [Ak _ _ _ hlt]; exact List.set_getElem_self hlt
theorem stops (o : Ordered S r n P) : ∃ J, (∀ j, j < J → ¬ Mt S n P (Ta S n P (E5 n r) j)) ∧ Mt S n P (Ta S n P (E5 n r) J) := by
  obtain ⟨K, hK⟩ := avn_bound (S := S) (r := r) n
  have hq : ∀ k, QB S r n (Bl (Ta S n P (E5 n r) (k + 1))) fun _ => k := by
    intro k
    induction k with
    | zero => exact qb_zero (Ready.rounds' o 0).inv
    | succ k ih => exact qb_round o (Ready.rounds' o k) ih
  have hst : Mt S n P (Ta S n P (E5 n r) (K + 1)) := fun i hi => by
    have rd := Ready.rounds' o K; exact ((rd.more o i).best o hi).same o.hS o.hr (rd.full o) (rd.done _ (List.mem_cons_of_mem _ (by rw [List.take_length]; exact J3 hi))) (exact_of rd.inv hK (hq K))
  have key : ∀ m, (∃ J, J ≤ m ∧ Mt S n P (Ta S n P (E5 n r) J)) → ∃ J, (∀ j, j < J → ¬ Mt S n P (Ta S n P (E5 n r) j)) ∧ Mt S n P (Ta S n P (E5 n r) J) := by
    intro m
    induction m with
    | zero => rintro ⟨J, hJ, h⟩; exact ⟨J, fun j hj => by omega, h⟩
    | succ m ih =>
      rintro ⟨J, hJ, h⟩
      by_cases hm : ∃ J, J ≤ m ∧ Mt S n P (Ta S n P (E5 n r) J)
      · exact ih hm
      · exact ⟨J, fun j hj hs => hm ⟨j, by omega, hs⟩, h⟩
  exact key (K + 1) ⟨K + 1, Nat.le_refl _, hst⟩
structure DomTree (S : Nat → List Nat) (r n : Nat) (P : List Nat) (t : List Int) : Prop where
  inv : Inv S r n (pos (r :: P)) (Bl t)
  len : t.length = n
  full : Full S r n (Bl t)
  exact_ : Exact S r n (Bl t)
theorem Sa (o : Ordered S r n P) {j : Nat} (h : Mt S n P (Ta S n P (E5 n r) j)) : DomTree S r n P (Ta S n P (E5 n r) j) := by
  have rd := Ready.rounds o j
  have hall : Ready S r n P (Ta S n P (E5 n r) j) P.length := by
    have := rd.round o P.length (Nat.le_refl _); rwa [Nk o rd.len h P.length (Nat.le_refl _)] at this
  refine ⟨rd.inv, rd.len, hall.full o, exact_fix rd.inv o.hS o.hr (hall.full o) fun y hy hne hr => ?_⟩
  have hm : y ∈ P := by
    rcases List.mem_cons.1 ((o.mem y).2 hr) with h1 | h1
    · exact absurd h1 hne
    · exact h1
  obtain ⟨i, hi, rfl⟩ := List.getElem_of_mem hm; have b := (hall.more o i).best o hi; rw [Ak _ _ _ hi] at b; have hs := h i hi; rw [Ak _ _ _ hi] at hs; exact ⟨_, hs, b.best⟩
end
end
end Go.Proofs.Ytjpacggpipflcaa

namespace Go.Proofs.Ytjpacggpipflcaa
noncomputable section
open Go Go.RowKit
set_option linter.unusedVariables false
set_option linter.unusedSimpArgs false
section
variable {S : Nat → List Nat} {s s' : Nat → Bool} {l o : List Nat}
theorem VL.before (h : VL S s l s' o) : ∀ A z B, o = A ++ z :: B → z ∈ l ∨ ∃ p ∈ B, z ∈ S p := by
  induction h with
  | nil s => intro A z B e; simp at e
  | skip h _ ih =>
    intro A z B e; rcases ih A z B e with h1 | h1
    · exact .inl (List.mem_cons_of_mem _ h1)
    · exact .inr h1
  | @step s s1 s2 y l o1 o2 h a b iha ihb =>
    intro A z B e; rcases List.append_eq_append_iff.1 e with ⟨C, hC1, hC2⟩ | ⟨C, hC1, hC2⟩
    ·
      cases C with
      | nil =>
        simp at hC2; obtain ⟨rfl, rfl⟩ := hC2; exact .inl (List.mem_cons_self ..)
      | cons c C =>
        simp at hC2; obtain ⟨rfl, hC2⟩ := hC2; rcases ihb C z B hC2 with h1 | h1
        · exact .inl (List.mem_cons_of_mem _ h1)
        · exact .inr h1
    · cases C with
      | nil =>
        simp at hC2; obtain ⟨rfl, rfl⟩ := hC2; exact .inl (List.mem_cons_self ..)
      | cons c C =>
        simp at hC2; obtain ⟨rfl, rfl⟩ := hC2; rcases iha A z C hC1 with h1 | ⟨p, hp, hz⟩
        · exact .inr ⟨y, by simp, h1⟩
        · exact .inr ⟨p, by simp [hp], hz⟩
theorem Ord.ordered {n r : Nat} {L : List Nat} (hr : r < n) (hS : ∀ x, x < n → ∀ w ∈ S x, w < n) (h : Ord S r L) : ∃ P, L = r :: P ∧ Ordered S r n P := by
  have h1 := h.nodup; have h2 := h.mem; obtain ⟨s', o, hv, rfl⟩ := h; refine ⟨o.reverse, rfl, hr, hS, h1, fun x => by rw [h2 x, rc_iff], fun i hi => ?_⟩
  have hi' : i < o.length := by simpa using hi
  have e : o.reverse = o.reverse.take i ++ o.reverse[i] :: o.reverse.drop (i + 1) := by rw [← List.drop_eq_getElem_cons hi, List.take_append_drop]
  have e2 : o = (o.reverse.drop (i + 1)).reverse ++ o.reverse[i] :: (o.reverse.take i).reverse := by
    have := congrArg List.reverse e; rw [List.reverse_reverse] at this; rw [List.reverse_append, List.reverse_cons] at this
    simpa using this
  rw [Ak _ _ _ hi]; rcases hv.before _ _ _ e2 with h3 | ⟨p, hp, hz⟩
  · exact ⟨r, List.mem_cons_self .., h3⟩
  · exact ⟨p, List.mem_cons_of_mem _ (List.mem_reverse.1 hp), hz⟩
end
def woI (S : Nat → List Nat) (w : Int) : Nat → List Nat := fun x => (S x).filter fun y => decide ((y : Int) ≠ w)
theorem woI_none (S : Nat → List Nat) : woI S (-1) = S := by
  funext x
  unfold woI; exact List.filter_eq_self.2 fun y _ => decide_eq_true (by omega)
theorem woI_nat (S : Nat → List Nat) (z : Nat) : woI S (z : Int) = wo S z := by
  funext x
  unfold woI wo
  congr 1
  funext y
  exact decide_eq_decide.2 ⟨fun h e => h (by rw [e]), fun h e => h (Int.ofNat.inj e)⟩
def Dg (L : List (List Int)) (r : Nat) (w : Int) : List Bool := if (r : Int) = w then List.replicate L.length false else Vm (woI (sN L) w) L.length ((List.replicate L.length false).set r true) L.length
theorem Io (L : List (List Int)) (r : Nat) (w : Int) : (Dg L r w).length = L.length := by
  unfold Dg
  split
  · simp
  · rw [Ti]; simp
theorem Lw {L : List (List Int)} (hm : Fd L = true) {r : Nat} (hr : r < L.length) (w : Int) :
    Bd (Fp L) (r : Int) w = some (Dg L r w) := by
  obtain ⟨h1, h2, h3⟩ := mayS_iff.1 hm
  have hroom : (1000 : Nat) ≤ room := by decide
  have hS := Ns hm; have hSw : ∀ z, z < L.length → ∀ y ∈ woI (sN L) w z, y < L.length := fun z hz y hy => hS z hz y (List.mem_filter.1 hy).1; have hgs : (Fp L).Succ = L := rfl
  have hlenS : ∀ a, (sN L a).length = (L.getD a []).length := fun a => by simp [sN]
  let fl : List Nat → List Nat := fun l => l.filter fun y => decide ((y : Int) ≠ w)
  have hin : ∀ (o : List Bool) (i : Nat), o.length = L.length → i < L.length → Au (Bw (Fp L) w (i : Int)) ((0 : Int), o) = some (if o.getD i false = true then mk o (woI (sN L) w i) else o) := fun o i ho hi => by
    have hb := H6 (h3 i hi)
    by_cases hoi : o.getD i false = true
    · rw [if_pos hoi]; have hmi : ∀ k, (mk o (fl ((sN L i).take k))).getD i false = true := fun k => (mk_at (n := L.length) _ _ ho (fun y hy => hS i hi y (List.mem_of_mem_take (List.mem_filter.1 hy).1)) i).2 (.inl hoi)
      have hml : ∀ k, (mk o (fl ((sN L i).take k))).length = L.length := fun k => by rw [mk_len, ho]
      refine Ck (Bw (Fp L) w (i : Int)) (fun k => (((k : Nat) : Int), mk o (fl ((sN L i).take k)))) _ (L.getD i []).length (fun k hk => ?_) ?_
      · show Bw (Fp L) w (i : Int) (_, _) = _
        unfold Bw; obtain ⟨a0, a1⟩ := Py (h3 i hi) hk; simp only [hgs, Ap, hmi]; rw [Ac (De (by rw [hml]; exact hi)), Hp (De hi), cond_true, Ca hk, cond_true, Ac (De hi), Ac (De hk)]
        have hk' : k < (sN L i).length := by rw [hlenS]; exact hk
        have hsk : (sN L i)[k] = ((L.getD i []).getD k 0).toNat := by rw [Ak _ _ _ hk]; simp [sN]
        have hski : (((sN L i)[k] : Nat) : Int) = (L.getD i []).getD k 0 := by rw [hsk]; exact Int.toNat_of_nonneg a0
        have e : mk o (fl ((sN L i).take (k + 1))) = if (L.getD i []).getD k 0 = w then mk o (fl ((sN L i).take k)) else (mk o (fl ((sN L i).take k))).set ((L.getD i []).getD k 0).toNat true := by
          rw [List.take_succ_eq_append_getElem hk']
          show mk o (List.filter _ (_ ++ [_])) = _
          rw [List.filter_append]
          by_cases hw : (L.getD i []).getD k 0 = w
          · rw [if_pos hw]
            have : List.filter (fun y : Nat => decide ((y : Int) ≠ w)) [(sN L i)[k]] = [] := by rw [List.filter_cons, hski, hw]; simp
            rw [this, List.append_nil]
          · rw [if_neg hw]
            have : List.filter (fun y : Nat => decide ((y : Int) ≠ w)) [(sN L i)[k]] = [(sN L i)[k]] := by rw [List.filter_cons, hski, if_pos (decide_eq_true hw)]; rfl
            rw [this]; unfold mk; rw [List.foldl_append, hsk]
            rfl
        by_cases hw : (L.getD i []).getD k 0 = w
        · have hne : ((L.getD i []).getD k 0 != w) = false := by rw [hw]; simp
          rw [hne, cond_false, Option.bind_some, w1 (by omega), e, if_pos hw]
        · have hne : ((L.getD i []).getD k 0 != w) = true := by rw [bne_iff_ne]; exact hw
          rw [hne, cond_true, Ac (De hi), Ac (De hk), Ac ⟨a0, by rw [hml]; exact a1⟩, w1 (by omega), e, if_neg hw]
          rfl
      · show Bw (Fp L) w (i : Int) (_, _) = _
        unfold Bw; simp only [hgs, Ap, hmi]; rw [Ac (De (by rw [hml]; exact hi)), Hp (De hi), cond_true, Di, cond_false]
        have : (sN L i).take (L.getD i []).length = sN L i := by rw [← hlenS]; exact List.take_length ..
        rw [this]
        rfl
    · have hof : o.getD i false = false := by simpa using hoi
      rw [if_neg hoi]
      apply Bb
      unfold Bw; simp only [hgs, Ap, hof]; rw [Ac (De (by rw [ho]; exact hi)), Hp (De hi), cond_false, cond_false]
  have hsw : ∀ o : List Bool, o.length = L.length → Au (Cg (Fp L) w) ((0 : Int), o) = some (sw (woI (sN L) w) o L.length) := fun o ho => by
    refine Ck (Cg (Fp L) w) (fun i => (((i : Nat) : Int), sw (woI (sN L) w) o i)) _ L.length (fun i hi => ?_) ?_
    · show Cg (Fp L) w (_, _) = _
      unfold Cg
      have hl : (sw (woI (sN L) w) o i).length = L.length := by rw [Nv, ho]
      simp only [hl, Ca hi, cond_true]; rw [hin _ i hl hi, w1 (by omega)]
      rfl
    · show Cg (Fp L) w (_, _) = _
      unfold Cg
      have hl : (sw (woI (sN L) w) o L.length).length = L.length := by rw [Nv, ho]
      simp only [hl, Di, cond_false]
  unfold Bd; simp only [hgs, Ap]; rw [Ac ⟨by omega, Int.le_refl _, by omega⟩]; unfold Dg
  by_cases hrw : (r : Int) = w
  · rw [if_pos hrw]
    have : ((r : Int) == w) = true := by simpa using hrw
    rw [this, cond_true]
  · rw [if_neg hrw]
    have hne : ((r : Int) == w) = false := by rw [beq_eq_false_iff_ne]; exact hrw
    rw [hne, cond_false, Ac (De (by simpa using hr))]
    have hl0 : ((List.replicate L.length false).set r true).length = L.length := by simp
    have : Au (Cd (Fp L) w) ((0 : Int), (List.replicate L.length false).set r true) = some (Vm (woI (sN L) w) L.length ((List.replicate L.length false).set r true) L.length) := by
      refine Ck (Cd (Fp L) w) (fun j => (((j : Nat) : Int), Vm (woI (sN L) w) L.length ((List.replicate L.length false).set r true) j)) _ L.length (fun j hj => ?_) ?_
      · show Cd (Fp L) w (_, _) = _
        unfold Cd
        have hl : (Vm (woI (sN L) w) L.length ((List.replicate L.length false).set r true) j).length = L.length := by rw [Ti, hl0]
        simp only [hl, Ca hj, cond_true]; rw [hsw _ hl, w1 (by omega)]
        rfl
      · show Cd (Fp L) w (_, _) = _
        unfold Cd
        have hl : (Vm (woI (sN L) w) L.length ((List.replicate L.length false).set r true) L.length).length = L.length := by rw [Ti, hl0]
        simp only [hl, Di, cond_false]
    rw [this]
    rfl
theorem Kn {L : List (List Int)} (hm : Fd L = true) {r : Nat} (hr : r < L.length) {b : Nat} : (Dg L r (-1)).getD b false = true ↔ Rc (sN L) r b := by
  unfold Dg; rw [if_neg (by omega), woI_none, Zj (Ns hm) hr b, rc_iff]
theorem Pw {L : List (List Int)} (hm : Fd L = true) {r : Nat} (hr : r < L.length) {a b : Nat} (hb : b < L.length) : (Dg L r (a : Int)).getD b false = true ↔ Av (sN L) r a b := by
  unfold Dg; rw [av_iff]
  by_cases h : r = a
  · subst h; rw [if_pos rfl, Hn]
    simp
  · rw [if_neg (by omega), woI_nat, Zj (S := wo (sN L) a) (fun z hz y hy => Ns hm z hz y (List.mem_filter.1 hy).1) hr b]; simp [h]
def Hl (L : List (List Int)) (r a b : Nat) : Bool := (Dg L r (-1)).getD b false && !(Dg L r (a : Int)).getD b false
theorem Vu {L : List (List Int)} (hm : Fd L = true) {r a b : Nat} (hr : r < L.length) (hb : b < L.length) : Hl L r a b = true ↔ Rc (sN L) r b ∧ ¬ Av (sN L) r a b := by
  unfold Hl; rw [Bool.and_eq_true, Bool.not_eq_true', ← Bool.not_eq_true, Kn hm hr, Pw hm hr hb]
theorem m_ref_over {L : List (List Int)} (hm : Fd L = true) {r a b : Nat} (hr : r < L.length) (hb : b < L.length) : Ed (Fp L) (r : Int) (a : Int) (b : Int) = some (Hl L r a b) := by
  unfold Ed; rw [Lw hm hr, Option.bind_some]; simp only [Ap]; rw [Ac (De (by rw [Io]; exact hb))]; unfold Hl
  cases h : (Dg L r (-1)).getD b false with
  | false => simp only [Bool.false_and]; rw [show (false == true) = false from rfl, cond_false, Option.bind_some, chk_off]; rfl
  | true =>
    rw [show (true == true) = true from rfl, cond_true, Lw hm hr, Option.bind_some, Hp (De (by rw [Io]; exact hb))]
    rfl
def Zo (L : List (List Int)) (r a b : Nat) : Bool := (List.range L.length).all fun c => decide (c = b) || !Hl L r c b || Hl L r c a
def pickD (L : List (List Int)) (r b : Nat) : Nat → Int
  | 0 => -2
  | a + 1 => if a ≠ b ∧ Hl L r a b = true ∧ Zo L r a b = true then (a : Int) else pickD L r b a
def treeAt (L : List (List Int)) (r b : Nat) : Int := if b = r then -1 else pickD L r b L.length
def Ja (L : List (List Int)) (r : Nat) : List Int := (List.range L.length).map (treeAt L r)
theorem Rg (L : List (List Int)) (r : Nat) : (Ja L r).length = L.length := by simp [Ja]
theorem treeD_at {L : List (List Int)} {r b : Nat} (hb : b < L.length) : (Ja L r).getD b 0 = treeAt L r b := by unfold Ja; rw [Hq hb]
theorem pick_cases (L : List (List Int)) (r b : Nat) : ∀ m, (pickD L r b m = -2 ∧ ∀ a, a < m → ¬ (a ≠ b ∧ Hl L r a b = true ∧ Zo L r a b = true)) ∨ ∃ a, a < m ∧ pickD L r b m = (a : Int) ∧ a ≠ b ∧ Hl L r a b = true ∧ Zo L r a b = true := by
  intro m
  induction m with
  | zero => exact .inl ⟨rfl, fun a ha => absurd ha (Nat.not_lt_zero a)⟩
  | succ m ih =>
    unfold pickD
    by_cases h : m ≠ b ∧ Hl L r m b = true ∧ Zo L r m b = true
    · rw [if_pos h]; exact .inr ⟨m, by omega, rfl, h⟩
    · rw [if_neg h]; rcases ih with ⟨h1, h2⟩ | ⟨a, h1, h2⟩
      · refine .inl ⟨h1, fun a ha => ?_⟩; rcases Nat.lt_succ_iff_lt_or_eq.1 ha with h3 | rfl
        · exact h2 a h3
        · exact h
      · exact .inr ⟨a, by omega, h2⟩
theorem DomTree.eq {L : List (List Int)} (hm : Fd L = true) {r : Nat} (hr : r < L.length) {P t : List _} (o : Ordered (sN L) r L.length P) (h : DomTree (sN L) r L.length P t) : t = Ja L r := by
  refine List.ext_getElem (by rw [h.len, Rg]) fun b h1 h2 => ?_
  have hb : b < L.length := by rw [← h.len]; exact h1
  rw [← Ak _ _ 0 h1, ← Ak _ _ 0 h2, treeD_at hb]
  show Bl t b = _
  have hov : ∀ a b, b < L.length → Bl t b ≠ -2 → (Hl L r a b = true ↔ UpTo (Bl t) b a) := fun a b hb hp => by
    rw [Vu hm hr hb, h.exact_ b hb hp]; exact ⟨fun k => k.2, fun k => ⟨h.inv.rc b hb hp, k⟩⟩
  unfold treeAt
  by_cases hbr : b = r
  · subst hbr; rw [if_pos rfl]; exact h.inv.top
  · rw [if_neg hbr]; rcases h.inv.kind b hb with hk | hk | ⟨z, hz⟩
    ·
      have hn : ¬ Rc (sN L) r b := fun k => h.full b hb k hk; rcases pick_cases L r b L.length with ⟨h3, _⟩ | ⟨a, _, _, _, h6, _⟩
      · rw [hk, h3]
      · exact absurd ((Vu hm hr hb).1 h6).1 hn
    · exact absurd hk hbr
    · obtain ⟨z1, z2, z3, z4⟩ := h.inv.up b hb z hz
      have hp : Bl t b ≠ -2 := by omega
      have hzo : Hl L r z b = true := (hov z b hb hp).2 (.up hz (.refl _))
      have hzb : z ≠ b := by rintro rfl; omega
      have hnear : Zo L r z b = true := all_range.2 fun c hc => by
        by_cases e : c = b
        · simp [e]
        · cases ho : Hl L r c b with
          | false => simp
          | true =>
            have := (hov c b hb hp).1 ho; rcases (anc_up hz).1 this with h3 | h3
            · exact absurd h3 e
            · rw [(hov c z z1 z2).2 h3]; simp
      rcases pick_cases L r b L.length with ⟨_, h3⟩ | ⟨a, h3, h4, h5, h6, h7⟩
      · exact absurd ⟨hzb, hzo, hnear⟩ (h3 z z1)
      · rw [h4, hz]; have haU := (hov a b hb hp).1 h6
        have ha1 : UpTo (Bl t) z a := by
          rcases (anc_up hz).1 haU with h8 | h8
          · exact absurd h8 h5
          · exact h8
        have hap := (h.inv.anc ha1 z1 z2).2.1
        have hza : UpTo (Bl t) a z := by
          have := all_range.1 h7 z z1; simp only [hzo, hzb, decide_false, Bool.not_true, Bool.false_or] at this; exact (hov z a h3 hap).1 this
        rw [h.inv.antisymm ha1 hza z1 z2]
end
end Go.Proofs.Ytjpacggpipflcaa

namespace Go.Proofs.Ytjpacggpipflcaa
noncomputable section
open Go Go.RowKit
set_option linter.unusedVariables false
set_option linter.unusedSimpArgs false
theorem Ia {g : TGraph} (h : H0 g = true) : Fd g.Succ = true ∧ g = Fp g.Succ := by
  unfold H0 at h; rw [Bool.and_eq_true] at h; refine ⟨h.1, ?_⟩; obtain ⟨s, p⟩ := g; have := of_decide_eq_true h.2; simp only at this; unfold Fp; rw [this]
section
variable {L : List (List Int)} (hm : Fd L = true) {r : Nat} (hr : r < L.length)
include hm hr
omit hr in
omit hr in
omit hm hr in
omit hm hr in
omit hm hr in
omit hr in
omit hr in
end
def treeG (g : TGraph) (r : Int) : List Int := if H0 g = true ∧ 0 ≤ r ∧ r < (g.Succ.length : Int) then Ja g.Succ r.toNat else []
end
end Go.Proofs.Ytjpacggpipflcaa

namespace Go.Proofs.Ytjpacggpipflcaa
noncomputable section
open Go Go.RowKit
set_option linter.unusedVariables false
set_option linter.unusedSimpArgs false
def upD (t : List Int) : Nat → Int → Option (List Int)
  | 0, _ => none
  | k + 1, a => if 0 ≤ a ∧ a < (t.length : Int) then (if t.getD a.toNat 0 = -1 then some [a] else (upD t k (t.getD a.toNat 0)).map fun l => a :: l) else none
def Ge (t : List Int) (a : Int) : List Int := (upD t t.length a).getD []
theorem upD_len (t : List Int) : ∀ k a q, upD t k a = some q → q.length ≤ k ∧ 1 ≤ q.length := by
  intro k
  induction k with
  | zero => intro a q h; cases h
  | succ k ih =>
    intro a q h; unfold upD at h
    split at h
    · split at h
      · cases h; simp
      · cases hu : upD t k (t.getD a.toNat 0) with
        | none => rw [hu] at h; cases h
        | some q' => rw [hu] at h; cases h; have := ih _ _ hu; simp; omega
    · cases h
theorem pathD_nil {t : List Int} {a : Int} : Ge t a = [] ↔ upD t t.length a = none := by
  unfold Ge
  cases h : upD t t.length a with
  | none => simp
  | some q => have := (upD_len t _ _ _ h).2; simp; intro e; subst e; simp at this
def P5 (t : List Int) (k : Nat) : Nat := ((List.range k).filter fun a => decide (t.getD a 0 = -1)).length
def okR (t : List Int) (a : Nat) : Bool := decide (t.getD a 0 = -2) || !decide (Ge t (a : Int) = [])
def G2 (t : List Int) : Bool := (List.range t.length).all (okR t) && decide (P5 t t.length = 1)
theorem U2 (t : List Int) (k : Nat) : P5 t (k + 1) = P5 t k + if t.getD k 0 = -1 then 1 else 0 := by
  unfold P5; rw [List.range_succ, List.filter_append, List.length_append]
  by_cases h : t.getD k 0 = -1
  · rw [if_pos h]
    have : List.filter (fun a => decide (t.getD a 0 = -1)) [k] = [k] := by rw [List.filter_cons, if_pos (decide_eq_true h)]; rfl
    rw [this]; rfl
  · rw [if_neg h]
    have : List.filter (fun a => decide (t.getD a 0 = -1)) [k] = [] := by rw [List.filter_cons, if_neg (by simpa using h)]; rfl
    rw [this]; rfl
def Ls (t : List Int) (a b : Int) : Int := if G2 t = true then ((Ge t a).find? fun x => (Ge t b).contains x).getD (-2) else -2
def W1 (t : List Int) (a b : Int) : Bool := Ls t a b == a && Ls t a b != -2
theorem Xn (p : Nat → Bool) (k : Nat) : ((List.range (k + 1)).filter p).map Int.ofNat = ((List.range k).filter p).map Int.ofNat ++ (if p k = true then [(k : Int)] else []) := by
  rw [List.range_succ, List.filter_append, List.map_append]
  congr 1
  cases h : p k with
  | true => simp [List.filter_cons, h]
  | false => simp [List.filter_cons, h]
theorem T5 (p : Nat → Bool) (k : Nat) : (((List.range k).filter p).map Int.ofNat).length ≤ k := by
  rw [List.length_map]; exact Nat.le_trans (List.length_filter_le ..) (by simp)
end
end Go.Proofs.Ytjpacggpipflcaa

namespace Go.Proofs.Ytjpacggpipflcaa
noncomputable section
open Go Go.RowKit
set_option linter.unusedVariables false
set_option linter.unusedSimpArgs false
section
variable {S : Nat → List Nat} {r n : Nat} {P : List Nat} {t : List Int}
theorem DomTree.up (h : DomTree S r n P t) : ∀ k x, x < n → Bl t x ≠ -2 → pos (r :: P) x < k → ∃ q, upD t k (x : Int) = some q ∧ (∀ w : Int, w ∈ q ↔ ∃ z : Nat, w = (z : Int) ∧ UpTo (Bl t) x z) ∧
    ∀ p : Int → Bool, (q.find? p = none ∧ ∀ z : Nat, UpTo (Bl t) x z → p (z : Int) = false) ∨ ∃ f : Nat, q.find? p = some (f : Int) ∧ UpTo (Bl t) x f ∧ p (f : Int) = true ∧ ∀ z : Nat, UpTo (Bl t) x z → p (z : Int) = true → UpTo (Bl t) f z := by
  intro k
  induction k with
  | zero => intro x _ _ hk; exact absurd hk (Nat.not_lt_zero _)
  | succ k ih =>
    intro x hx hp hk
    have hxt : (0 : Int) ≤ (x : Int) ∧ (x : Int) < (t.length : Int) := by rw [h.len]; omega
    unfold upD; rw [if_pos hxt, Ap]; have hpx : t.getD x 0 = Bl t x := rfl; rw [hpx]; rcases h.inv.kind x hx with h1 | rfl | ⟨z, hz⟩
    · exact absurd h1 hp
    · rw [if_pos h.inv.top]; refine ⟨_, rfl, fun w => ?_, fun p => ?_⟩
      · rw [List.mem_singleton]
        constructor
        · rintro rfl; exact ⟨x, rfl, .refl _⟩
        · rintro ⟨z, rfl, hz⟩; rw [h.inv.root_anc.1 hz]
      · cases hpp : p (x : Int) with
        | false => exact .inl ⟨by simp [List.find?, hpp], fun z hz => by rw [h.inv.root_anc.1 hz]; exact hpp⟩
        | true => exact .inr ⟨x, by simp [List.find?, hpp], .refl _, hpp, fun z hz _ => hz⟩
    · obtain ⟨z1, z2, z3, z4⟩ := h.inv.up x hx z hz; rw [hz, if_neg (by omega)]; obtain ⟨q, hq1, hq2, hq3⟩ := ih z z1 z2 (by omega); rw [hq1]; refine ⟨(x : Int) :: q, rfl, fun w => ?_, fun p => ?_⟩
      · rw [List.mem_cons, hq2 w]
        constructor
        · rintro (rfl | ⟨y, rfl, hy⟩)
          · exact ⟨x, rfl, .refl _⟩
          · exact ⟨y, rfl, .up hz hy⟩
        · rintro ⟨y, rfl, hy⟩; rcases (anc_up hz).1 hy with rfl | hy
          · exact .inl rfl
          · exact .inr ⟨y, rfl, hy⟩
      · cases hpp : p (x : Int) with
        | true => exact .inr ⟨x, by simp [List.find?, hpp], .refl _, hpp, fun y hy _ => hy⟩
        | false =>
          have hf : ((x : Int) :: q).find? p = q.find? p := by simp [List.find?, hpp]
          rw [hf]; rcases hq3 p with ⟨e1, e2⟩ | ⟨f, e1, e2, e3, e4⟩
          · refine .inl ⟨e1, fun y hy => ?_⟩; rcases (anc_up hz).1 hy with rfl | hy
            · exact hpp
            · exact e2 y hy
          · refine .inr ⟨f, e1, .up hz e2, e3, fun y hy hpy => ?_⟩; rcases (anc_up hz).1 hy with rfl | hy
            · rw [hpp] at hpy; cases hpy
            · exact e4 y hy hpy
theorem Ordered.pos_lt (o : Ordered S r n P) {x : Nat} (hx : x ∈ r :: P) : pos (r :: P) x < n := by
  obtain ⟨j, hj, rfl⟩ := List.getElem_of_mem hx; rw [(Ku o.nodup hj).2]; have := J1 n (r :: P) o.nodup fun y hy => o.lt hy; omega
theorem DomTree.path (h : DomTree S r n P t) (o : Ordered S r n P) {x : Nat} (hx : x < n) (hp : Bl t x ≠ -2) : Ge t (x : Int) ≠ [] ∧ (∀ w : Int, w ∈ Ge t (x : Int) ↔ ∃ z : Nat, w = (z : Int) ∧ UpTo (Bl t) x z) ∧
    ∀ p : Int → Bool, ((Ge t (x : Int)).find? p = none ∧ ∀ z : Nat, UpTo (Bl t) x z → p (z : Int) = false) ∨ ∃ f : Nat, (Ge t (x : Int)).find? p = some (f : Int) ∧ UpTo (Bl t) x f ∧ p (f : Int) = true ∧ ∀ z : Nat, UpTo (Bl t) x z → p (z : Int) = true → UpTo (Bl t) f z := by
  have hm := (o.mem x).2 (h.inv.rc x hx hp); obtain ⟨q, h1, h2, h3⟩ := h.up n x hx hp (o.pos_lt hm)
  have e : Ge t (x : Int) = q := by unfold Ge; rw [h.len, h1]; rfl
  rw [e]; refine ⟨fun e => ?_, h2, h3⟩; have := (h2 (x : Int)).2 ⟨x, rfl, .refl _⟩; rw [e] at this
  cases this
theorem DomTree.nopath (h : DomTree S r n P t) {x : Nat} (hx : x < n) (hp : Bl t x = -2) : Ge t (x : Int) = [] := by
  rw [pathD_nil]
  cases hl : t.length with
  | zero => rfl
  | succ k =>
    unfold upD; rw [if_pos ⟨by omega, by rw [h.len]; omega⟩, Ap, show t.getD x 0 = Bl t x from rfl, hp, if_neg (by omega)]
    cases k with
    | zero => rfl
    | succ k => unfold upD; rw [if_neg (by omega)]; rfl
theorem DomTree.right (h : DomTree S r n P t) (o : Ordered S r n P) : G2 t = true := by
  unfold G2; rw [Bool.and_eq_true]
  constructor
  · refine all_range.2 fun x hx => ?_; rw [h.len] at hx; unfold okR
    by_cases hp : Bl t x = -2
    · rw [show t.getD x 0 = Bl t x from rfl, hp]; rfl
    · rw [decide_eq_false (h.path o hx hp).1]; simp
  · apply decide_eq_true
    have key : ∀ k, k ≤ n → P5 t k = if r < k then 1 else 0 := by
      intro k
      induction k with
      | zero => intro _; rfl
      | succ k ih =>
        intro hk; rw [U2, ih (by omega)]
        have hr : t.getD k 0 = -1 ↔ k = r := by
          constructor
          · intro he; rcases h.inv.kind k (by omega) with h1 | h1 | ⟨z, hz⟩
            · rw [show t.getD k 0 = Bl t k from rfl, h1] at he; omega
            · exact h1
            · rw [show t.getD k 0 = Bl t k from rfl, hz] at he; omega
          · rintro rfl; exact h.inv.top
        by_cases hkr : k = r
        · subst hkr; rw [if_neg (by omega), if_pos (hr.2 rfl), if_pos (by omega)]
        · rw [if_neg (fun e => hkr (hr.1 e))]
          by_cases h2 : r < k
          · rw [if_pos h2, if_pos (by omega)]
          · rw [if_neg h2, if_neg (by omega)]
    rw [h.len, key n (Nat.le_refl _), if_pos o.hr]
theorem DomTree.meet (h : DomTree S r n P t) (o : Ordered S r n P) {a b : Nat} (ha : a < n) (hb : b < n) (hpa : Bl t a ≠ -2) (hpb : Bl t b ≠ -2) : ∃ m : Nat, Ls t (a : Int) (b : Int) = (m : Int) ∧ MeetAt (Bl t) a b m ∧ m < n ∧ Bl t m ≠ -2 := by
  have rd : Ready S r n P t P.length := ⟨h.inv, h.len, fun x hx => by rw [List.take_length] at hx; exact h.full x (o.lt hx) ((o.mem x).1 hx)⟩; obtain ⟨c, hc1, hc2, hc3⟩ := h.inv.meets (rd.inj o) pos_root _ a b (Nat.le_refl _) ha hb hpa hpb; refine ⟨c, ?_, hc1, hc2, hc3⟩; unfold Ls; rw [if_pos (h.right o)]; obtain ⟨hca, hcb⟩ := (hc1 c).1 (.refl _)
  have hin : ∀ z : Nat, (Ge t (b : Int)).contains (z : Int) = true ↔ UpTo (Bl t) b z := fun z => by
    rw [List.contains_iff_mem, (h.path o hb hpb).2.1]
    constructor
    · rintro ⟨y, hy, hu⟩; cases Int.ofNat.inj hy; exact hu
    · intro hu; exact ⟨z, rfl, hu⟩
  rcases (h.path o ha hpa).2.2 fun x => (Ge t (b : Int)).contains x with ⟨_, h2⟩ | ⟨f, h1, h2, h3, h4⟩
  · have := h2 c hca; rw [(hin c).2 hcb] at this
    cases this
  · rw [h1]; have hfc := h4 c hca ((hin c).2 hcb); have hcf := (hc1 f).2 ⟨h2, (hin f).1 h3⟩; rw [h.inv.antisymm hcf hfc hc2 hc3]
    rfl
theorem DomTree.meet_none (h : DomTree S r n P t) (o : Ordered S r n P) {a b : Nat} (ha : a < n) (hb : b < n) (hp : Bl t a = -2 ∨ Bl t b = -2) : Ls t (a : Int) (b : Int) = -2 := by
  unfold Ls; rw [if_pos (h.right o)]; rcases hp with hp | hp
  · rw [h.nopath ha hp]; rfl
  · rw [h.nopath hb hp]
    have : (Ge t (a : Int)).find? (fun x => ([] : List Int).contains x) = none := List.find?_eq_none.2 fun x _ => by simp
    rw [this]; rfl
theorem DomTree.over (h : DomTree S r n P t) (o : Ordered S r n P) {a b : Nat} (ha : a < n) (hb : b < n) : W1 t (a : Int) (b : Int) = true ↔ Bl t b ≠ -2 ∧ UpTo (Bl t) b a := by
  unfold W1; rw [Bool.and_eq_true, beq_iff_eq, bne_iff_ne]
  by_cases hpa : Bl t a = -2
  · rw [h.meet_none o ha hb (.inl hpa)]
    constructor
    · rintro ⟨h1, _⟩; omega
    · rintro ⟨h1, h2⟩; exact absurd hpa (h.inv.anc h2 hb h1).2.1
  · by_cases hpb : Bl t b = -2
    · rw [h.meet_none o ha hb (.inr hpb)]
      constructor
      · rintro ⟨h1, _⟩; omega
      · rintro ⟨h1, _⟩; exact absurd hpb h1
    · obtain ⟨m, hm1, hm2, hm3, hm4⟩ := h.meet o ha hb hpa hpb; rw [hm1]
      constructor
      · rintro ⟨h1, _⟩; have h1 := Int.ofNat.inj h1; subst h1; exact ⟨hpb, ((hm2 _).1 (.refl _)).2⟩
      · rintro ⟨_, h2⟩; have := (hm2 a).2 ⟨.refl _, h2⟩; have h3 := ((hm2 m).1 (.refl _)).1; rw [h.inv.antisymm h3 this ha hpa]; exact ⟨rfl, by omega⟩
theorem DomTree.over_dom (h : DomTree S r n P t) (o : Ordered S r n P) {a b : Nat} (ha : a < n) (hb : b < n) : W1 t (a : Int) (b : Int) = true ↔ Rc S r b ∧ ¬ Av S r a b := by
  rw [h.over o ha hb]
  constructor
  · rintro ⟨h1, h2⟩; exact ⟨h.inv.rc b hb h1, (h.exact_ b hb h1 a).1 h2⟩
  · rintro ⟨h1, h2⟩; have := h.full b hb h1; exact ⟨this, (h.exact_ b hb this a).2 h2⟩
end
section
variable {L : List (List Int)} (hm : Fd L = true) {r : Nat} (hr : r < L.length)
include hm hr
theorem treeD_dom : ∃ P, Ord (sN L) r (r :: P) ∧ Ordered (sN L) r L.length P ∧ DomTree (sN L) r L.length P (Ja L r) := by
  obtain ⟨O, hO⟩ := Ord.exist (Ns hm) hr; obtain ⟨P, rfl, o⟩ := hO.ordered hr (Ns hm); obtain ⟨J, _, hJ⟩ := stops o; have hd := Sa o hJ; refine ⟨P, hO, o, ?_⟩; rw [← hd.eq hm hr o]; exact hd
end
end
end Go.Proofs.Ytjpacggpipflcaa

namespace Go.Proofs.Ytjpacggpipflcaa
noncomputable section
open Go Go.RowKit
set_option linter.unusedVariables false
set_option linter.unusedSimpArgs false
def Pf (L : List (List Int)) (a b : Nat) : Bool := Kt L a b && Hl L 0 b a
def F7 (L : List (List Int)) (a m : Nat) : List (Int × Int) := ((List.range m).filter (Pf L a)).map fun b => ((a : Int), ((b : Nat) : Int))
def Mp (L : List (List Int)) (m : Nat) : List (Int × Int) := ((List.range m).map fun a => F7 L a L.length).flatten
def B3 (L : List (List Int)) : List (Int × Int) := Mp L L.length
def Hh (L : List (List Int)) (x : Nat) : Bool := (Dg L 0 (-1)).getD x false
def Ii (L : List (List Int)) (h : Nat) : Bool := (B3 L).any fun p => p.2 == (h : Int)
def inBy (L : List (List Int)) (h x : Nat) (p : Int × Int) : Bool := (p.2 == (h : Int)) && (decide (x ≠ h) && (Hh L x && (Dg L x (h : Int)).getD p.1.toNat false))
def Tq (L : List (List Int)) (h x : Nat) : Bool := decide (x = h) || (B3 L).any (inBy L h x)
def P4 (L : List (List Int)) (h : Nat) : List Int := ((List.range L.length).filter (Tq L h)).map Int.ofNat
def Og (L : List (List Int)) : List At := ((List.range L.length).filter (Ii L)).map fun h => ⟨((h : Nat) : Int), P4 L h⟩
section
variable {L : List (List Int)}
theorem Yg (a m : Nat) : F7 L a (m + 1) = F7 L a m ++ (if Pf L a m = true then [((a : Int), ((m : Nat) : Int))] else []) := by
  unfold F7; rw [List.range_succ, List.filter_append, List.map_append]
  congr 1
  by_cases h : Pf L a m = true
  · rw [if_pos h]; simp [h]
  · rw [if_neg h]; simp [h]
theorem Sl (a m : Nat) : (F7 L a m).length ≤ m := by
  unfold F7; rw [List.length_map]; exact Nat.le_trans (List.length_filter_le ..) (by simp)
theorem Sm (m : Nat) : Mp L (m + 1) = Mp L m ++ F7 L m L.length := by
  unfold Mp; rw [List.range_succ, List.map_append, List.flatten_append]
  simp
theorem P1 (m : Nat) : (Mp L m).length ≤ m * L.length := by
  have := flat_bound (List.range m) (fun a => F7 L a L.length) L.length fun a _ => Sl a _; rw [List.length_range] at this; exact this
theorem mem_backs {p : Int × Int} : p ∈ B3 L ↔ ∃ a b : Nat, p = ((a : Int), (b : Int)) ∧ a < L.length ∧ b < L.length ∧ Pf L a b = true := by
  unfold B3 Mp F7; simp only [List.mem_flatten, List.mem_map, List.mem_range]
  constructor
  · rintro ⟨_, ⟨a, ha, rfl⟩, hd⟩; obtain ⟨b, hb, rfl⟩ := List.mem_map.1 hd; obtain ⟨h1, h2⟩ := List.mem_filter.1 hb; exact ⟨a, b, rfl, ha, List.mem_range.1 h1, h2⟩
  · rintro ⟨a, b, rfl, ha, hb, h⟩; exact ⟨_, ⟨a, ha, rfl⟩, List.mem_map.2 ⟨b, List.mem_filter.2 ⟨List.mem_range.2 hb, h⟩, rfl⟩⟩
theorem J0 (h : L.length ≤ 64) : (B3 L).length ≤ 4096 := Nat.le_trans (P1 _) (Nat.mul_le_mul h h)
variable (hm : Fd L = true)
include hm
theorem m_ref_back {a b : Nat} (ha : a < L.length) : E8 (Fp L) (a : Int) (b : Int) = some (Pf L a b) := by
  obtain ⟨h1, h64, hok⟩ := mayS_iff.1 hm; have hg : (Fp L).Succ = L := rfl
  have hrl : (L.getD a []).length ≤ 64 := by have := H6 (hok a ha); omega
  have hh : Df (L.getD a []) (b : Int) = some (Kt L a b) := m_has _ _ (by omega); have ho : Ed (Fp L) 0 (b : Int) (a : Int) = some (Hl L 0 b a) := m_ref_over hm (r := 0) (by omega) ha; unfold E8; simp only [hg, Ap, hh, ho]; rw [Ac (De ha), Option.bind_some]; unfold Pf
  cases Kt L a b <;> rfl
theorem backs_L1 (a : Nat) (l : List (Int × Int)) (hl : l.length ≤ 10000) (ha : a < L.length) : Au (Cb (Fp L) (a : Int)) (l, (0 : Int)) = some (l ++ F7 L a L.length) := by
  have hroom : (1000000 : Nat) ≤ room := by decide
  have hg : (Fp L).Succ = L := rfl; obtain ⟨_, h64, _⟩ := mayS_iff.1 hm
  refine Ck (Cb (Fp L) (a : Int)) (fun m => (l ++ F7 L a m, ((m : Nat) : Int))) _ L.length (fun m hmm => ?_) ?_ |> fun h => by
    have e : l ++ F7 L a 0 = l := by simp [F7]
    rw [e] at h; exact h
  · show Cb _ _ (_, (m : Int)) = _
    unfold Cb; have hlen := Sl (L := L) a m; simp only [hg, Ca hmm, cond_true, m_ref_back hm ha, Option.bind_some]; rw [Yg]
    cases Pf L a m with
    | true => rw [cond_true, Ac (by rw [List.length_append]; simp only [List.length_cons, List.length_nil]; omega), Option.bind_some, w1 (by omega), if_pos rfl, List.append_assoc]
    | false => rw [cond_false, Option.bind_some, w1 (by omega), if_neg (by simp), List.append_nil]
  · show Cb _ _ (_, _) = _
    unfold Cb; simp only [hg, Di, cond_false]
theorem backs_L2 : Au (Cf (Fp L)) (([] : List (Int × Int)), (0 : Int)) = some (B3 L) := by
  have hg : (Fp L).Succ = L := rfl; obtain ⟨_, h64, _⟩ := mayS_iff.1 hm; refine Ck (Cf (Fp L)) (fun m => (Mp L m, ((m : Nat) : Int))) _ L.length (fun m hmm => ?_) ?_
  · show Cf _ (_, (m : Int)) = _
    unfold Cf; have h1 := P1 (L := L) m; have h2 : m * L.length ≤ 64 * 64 := Nat.mul_le_mul (by omega) (by omega); simp only [hg, Ca hmm, cond_true]; rw [backs_L1 hm m _ (by omega) hmm, Option.bind_some, w1 (by omega), Sm]
  · show Cf _ (_, _) = _
    unfold Cf; simp only [hg, Di, cond_false]
    rfl
def Kc (L : List (List Int)) (h t : Nat) (s : Nat → Bool) (x : Nat) : Bool := s x || (decide (x ≠ h) && (Hh L x && (Dg L x (h : Int)).getD t false))
theorem all_L1 {h : Nat} {j : Nat} {t : Nat} (s : Nat → Bool) (hj : j < (B3 L).length) (ht : ((B3 L).getD j ((0 : Int), (0 : Int))).1 = (t : Int)) (htl : t < L.length) :
    Au (Cv (Fp L) (Dg L 0 (-1)) (B3 L) (h : Int) (j : Int)) ((0 : Int), (List.range L.length).map s) = some ((List.range L.length).map (Kc L h t s)) := by
  have hg : (Fp L).Succ = L := rfl; obtain ⟨h1, h64, _⟩ := mayS_iff.1 hm
  have e0 : (List.range L.length).map s = (List.range L.length).map fun x => if x < 0 then Kc L h t s x else s x := Dn fun x hx => by rw [if_neg (Nat.not_lt_zero x)]
  have e1 : (List.range L.length).map (Kc L h t s) = (List.range L.length).map fun x => if x < L.length then Kc L h t s x else s x := Dn fun x hx => by rw [if_pos hx]
  rw [e0, e1]; refine Ck (Cv (Fp L) (Dg L 0 (-1)) (B3 L) (h : Int) (j : Int)) (fun m => (((m : Nat) : Int), (List.range L.length).map fun x => if x < m then Kc L h t s x else s x)) _ L.length (fun m hmm => ?_) ?_
  · show Cv _ _ _ _ _ ((m : Int), _) = _
    unfold Cv; have hil : A3 (m : Int) ((List.range L.length).map fun x => if x < m then Kc L h t s x else s x).length := De (by simpa using hmm)
    have hat : ((List.range L.length).map fun x => if x < m then Kc L h t s x else s x).getD m false = s m := by rw [Hq hmm, if_neg (by omega)]
    have hR : Bd (Fp L) (m : Int) (h : Int) = some (Dg L m (h : Int)) := Lw hm hmm (h : Int); have hst : (Dg L 0 (-1)).getD m false = Hh L m := rfl
    have hne : ((m : Int) != (h : Int)) = decide (m ≠ h) := by rw [Bool.eq_iff_iff, bne_iff_ne, decide_eq_true_eq]; omega
    simp only [hg, Ca hmm, cond_true, Ap, hat, hst, hne, ht]
    have hv : Kc L h t s m = (bif s m then true else (bif (bif decide (m ≠ h) then Hh L m else false) then (Dg L m (h : Int)).getD t false else false)) := by
      unfold Kc
      cases s m <;> cases decide (m ≠ h) <;> cases Hh L m <;> rfl
    have hset : ((List.range L.length).map fun x => if x < m then Kc L h t s x else s x).set m (Kc L h t s m) = (List.range L.length).map fun x => if x < m + 1 then Kc L h t s x else s x := by
      rw [K7]; refine Dn fun x hx => ?_
      by_cases e : x = m
      · subst e; rw [if_pos rfl, if_pos (by omega)]
      · rw [if_neg e]
        by_cases e2 : x < m
        · rw [if_pos e2, if_pos (by omega)]
        · rw [if_neg e2, if_neg (by omega)]
    rw [Ac hil, Ac (fun _ => De (by rw [Io]; exact hmm)), w1 (by omega)]
    cases hc : ((s m == false) && ((bif decide (m ≠ h) then Hh L m else false) == true)) with
    | true =>
      rw [cond_true, hR, Option.bind_some, Ac (fun _ => De hj), Ac (fun _ => De (by rw [Io]; exact htl)), Ac hil, ← hv, hset]
    | false =>
      rw [cond_false, Option.bind_some, Ac (fun h => by cases h), Ac (fun h => by cases h), Ac hil]
      have hv2 : (bif s m then true else (bif (bif decide (m ≠ h) then Hh L m else false) then ([] : List Bool).getD t false else false)) = Kc L h t s m := by
        rw [hv]
        cases hs : s m with
        | true => rfl
        | false =>
          rw [hs] at hc
          cases hq : (bif decide (m ≠ h) then Hh L m else false) with
          | true => rw [hq] at hc; cases hc
          | false => rfl
      rw [hv2, hset]
  · show Cv _ _ _ _ _ (_, _) = _
    unfold Cv; simp only [hg, Di, cond_false]
def Ly (L : List (List Int)) (h m x : Nat) : Bool := decide (x = h) || ((B3 L).take m).any (inBy L h x)
theorem all_L2 {h : Nat} : Au (Cw (Fp L) (Dg L 0 (-1)) (B3 L) (h : Int)) (false, (0 : Int), (List.range L.length).map fun x => decide (x = h)) = some (Ii L h, (List.range L.length).map (Tq L h)) := by
  obtain ⟨h1, h64, _⟩ := mayS_iff.1 hm; have hbl := J0 (L := L) h64
  have e0 : (List.range L.length).map (fun x => decide (x = h)) = (List.range L.length).map (Ly L h 0) := Dn fun x hx => by unfold Ly; simp
  have e1 : (List.range L.length).map (Tq L h) = (List.range L.length).map (Ly L h (B3 L).length) := Dn fun x hx => by unfold Ly Tq; rw [List.take_length]
  have e2 : Ii L h = ((B3 L).take (B3 L).length).any fun p => p.2 == (h : Int) := by rw [List.take_length]; rfl
  rw [e0, e1, e2]; refine Ck (Cw (Fp L) (Dg L 0 (-1)) (B3 L) (h : Int)) (fun m => (((B3 L).take m).any fun p => p.2 == (h : Int), ((m : Nat) : Int), (List.range L.length).map (Ly L h m))) _ (B3 L).length (fun m hmm => ?_) ?_
  · show Cw _ _ _ _ (_, (m : Int), _) = _
    unfold Cw; obtain ⟨u, v, he, hu, hv, _⟩ := mem_backs.1 (Ff (d := ((0 : Int), (0 : Int))) hmm)
    have ht : (B3 L).take (m + 1) = (B3 L).take m ++ [((u : Int), (v : Int))] := by
      rw [List.take_succ_eq_append_getElem hmm, ← he, Ak _ _ _ hmm]
    simp only [Ca hmm, cond_true, Ap, he]; rw [Ac (De hmm), ht, List.any_append, List.any_cons, List.any_nil, Bool.or_false]
    have hk : ∀ x, Ly L h (m + 1) x = (Ly L h m x || inBy L h x ((u : Int), (v : Int))) := fun x => by
      unfold Ly; rw [ht, List.any_append, List.any_cons, List.any_nil, Bool.or_false, Bool.or_assoc]
    by_cases e : v = h
    · subst e
      have hb : ((v : Int) != (v : Int)) = false := by simp
      rw [hb, cond_false, all_L1 hm (h := v) (t := u) (Ly L v m) hmm (by rw [he]) hu, Option.bind_some, Option.bind_some]
      have hx : (List.range L.length).map (Kc L v u (Ly L v m)) = (List.range L.length).map (Ly L v (m + 1)) := Dn fun x hx => by
        rw [hk]; unfold Kc inBy; simp [Ap]
      simp only [hx, w1 (show m < 4611686018427387904 by omega), beq_self_eq_true, Bool.or_true]
    · have hb : ((v : Int) != (h : Int)) = true := by rw [bne_iff_ne]; omega
      have hb2 : ((v : Int) == (h : Int)) = false := beq_eq_false_iff_ne.2 (by omega); rw [hb, cond_true, Option.bind_some]
      have hx : (List.range L.length).map (Ly L h m) = (List.range L.length).map (Ly L h (m + 1)) := Dn fun x hx => by
        rw [hk]; unfold inBy; rw [hb2, Bool.false_and, Bool.or_false]
      simp only [hx, w1 (show m < 4611686018427387904 by omega), hb2, Bool.or_false]
  · show Cw _ _ _ _ (_, _, _) = _
    unfold Cw; simp only [Di, cond_false]
theorem all_L3 (p : Nat → Bool) : Au (Cx (Fp L) ((List.range L.length).map p)) ((0 : Int), ([] : List Int)) = some (((List.range L.length).filter p).map Int.ofNat) := by
  have hroom : (1000 : Nat) ≤ room := by decide
  have hg : (Fp L).Succ = L := rfl; obtain ⟨h1, h64, _⟩ := mayS_iff.1 hm; refine Ck (Cx (Fp L) ((List.range L.length).map p)) (fun m => (((m : Nat) : Int), ((List.range m).filter p).map Int.ofNat)) _ L.length (fun m hmm => ?_) ?_
  · show Cx _ _ ((m : Int), _) = _
    unfold Cx; have hlen := T5 p m; simp only [hg, Ca hmm, cond_true, Ap, Hq hmm]; rw [Ac (De (by simpa using hmm)), Xn]
    cases p m with
    | true => rw [cond_true, Ac (by simp only [List.length_cons, List.length_nil]; omega), Option.bind_some, w1 (by omega), if_pos rfl]
    | false => rw [cond_false, Option.bind_some, w1 (by omega), if_neg (by simp), List.append_nil]
  · show Cx _ _ (_, _) = _
    unfold Cx; simp only [hg, Di, cond_false]
theorem all_L4 : Au (Ct (Fp L) (Dg L 0 (-1)) (B3 L)) (([] : List At), (0 : Int)) = some (Og L) := by
  have hroom : (1000 : Nat) ≤ room := by decide
  have hg : (Fp L).Succ = L := rfl; obtain ⟨h1, h64, _⟩ := mayS_iff.1 hm
  have hlen : ∀ m, (((List.range m).filter (Ii L)).map fun h => (⟨((h : Nat) : Int), P4 L h⟩ : At)).length ≤ m := fun m => by
    rw [List.length_map]; exact Nat.le_trans (List.length_filter_le ..) (by simp)
  refine Ck (Ct (Fp L) (Dg L 0 (-1)) (B3 L)) (fun m => (((List.range m).filter (Ii L)).map fun h => (⟨((h : Nat) : Int), P4 L h⟩ : At), ((m : Nat) : Int))) _ L.length (fun m hmm => ?_) ?_
  · show Ct _ _ _ (_, (m : Int)) = _
    unfold Ct; have hl := hlen m
    have hs : (List.replicate L.length false).set m true = (List.range L.length).map fun x => decide (x = m) := by
      have : List.replicate L.length false = (List.range L.length).map fun _ => false := by
        refine List.ext_getElem (by simp) fun i g1 g2 => by simp
      rw [this, K7]; refine Dn fun x hx => ?_
      by_cases e : x = m
      · rw [if_pos e, decide_eq_true e]
      · rw [if_neg e, decide_eq_false e]
    simp only [hg, Ca hmm, cond_true, Ap]; rw [Ac ⟨by omega, by omega, by omega⟩, Ac (De (by simpa using hmm)), hs, all_L2 hm, Option.bind_some]; simp only [all_L3 hm, Option.bind_some]; rw [List.range_succ, List.filter_append, List.map_append]
    cases hh : Ii L m with
    | true =>
      rw [cond_true, Ac (by simp only [List.length_cons, List.length_nil]; omega), Option.bind_some, w1 (by omega)]; simp [hh, P4]
    | false =>
      rw [cond_false, Option.bind_some, w1 (by omega)]; simp [hh]
  · show Ct _ _ _ (_, _) = _
    unfold Ct; simp only [hg, Di, cond_false]
    rfl
end
def Gs (g : TGraph) : List (Int × Int) := if H0 g = true then B3 g.Succ else []
def Dk (g : TGraph) : List At := if H0 g = true then Og g.Succ else []
theorem Nj (g : TGraph) (h : Fits g.Succ) : Cm g = some (Gs g) := by
  unfold Cm Gs; rw [Oo _ h, Option.bind_some]
  cases hG : H0 g with
  | false => rw [if_neg (by simp)]; rfl
  | true =>
    obtain ⟨hm, hg⟩ := Ia hG; have hl := backs_L2 hm; rw [← hg] at hl; rw [if_pos rfl, Bool.not_true, cond_false, hl]
    rfl
theorem m_ref_loops (g : TGraph) (h : Fits g.Succ) : Fg g = some (Dk g) := by
  unfold Fg Dk; rw [Oo _ h, Option.bind_some]
  cases hG : H0 g with
  | false => rw [if_neg (by simp)]; rfl
  | true =>
    obtain ⟨hm, hg⟩ := Ia hG; have hl := all_L4 hm; have hR := Lw hm (r := 0) (by have := (mayS_iff.1 hm).1; omega) (-1); rw [← hg] at hl hR
    have hb : Cm g = some (B3 g.Succ) := by rw [Nj g h]; unfold Gs; rw [if_pos hG]
    rw [if_pos rfl, Bool.not_true, cond_false]
    show Option.bind (Bd g ((0 : Nat) : Int) (-1)) _ = _
    rw [hR, Option.bind_some, hb, Option.bind_some, hl]
    rfl
end
end Go.Proofs.Ytjpacggpipflcaa

namespace Go.Proofs.Ytjpacggpipflcaa
noncomputable section
open Go Go.RowKit
set_option linter.unusedVariables false
set_option linter.unusedSimpArgs false
def E4 (W : List (Int × Int)) (a y : Int) : Bool := W.all fun p => !((p.1 == a) && (p.2 == y))
def H1 (L : List (List Int)) (W : List (Int × Int)) (a : Nat) : List Int := (L.getD a []).filter (E4 W (a : Int))
def Nb (L : List (List Int)) (W : List (Int × Int)) : List (List Int) := (List.range L.length).map (H1 L W)
def Ho (C : List (List Int)) (a : Nat) : Bool := (Dg C 0 (-1)).getD a false && (C.getD a []).any fun y => (Dg C y.toNat (-1)).getD a false
def Me (C : List (List Int)) : Bool := (List.range C.length).any (Ho C)
def Ik (L : List (List Int)) (W : List (Int × Int)) : Bool := Me (Nb L W)
section
variable {L : List (List Int)}
theorem Ny {W : List (Int × Int)} : (Nb L W).length = L.length := by simp [Nb]
theorem cutL_at {W : List (Int × Int)} {a : Nat} (ha : a < L.length) : (Nb L W).getD a [] = H1 L W a := by unfold Nb; rw [Hq ha]
theorem cutL_nil : Nb L [] = L := by
  have e : L = (List.range L.length).map fun i => L.getD i [] := List.ext_getElem (by simp) fun i h1 h2 => by rw [List.getElem_map, List.getElem_range, Ak _ _ _ h1]
  conv => rhs; rw [e]
  unfold Nb; refine Dn fun i hi => ?_; unfold H1; exact List.filter_eq_self.2 (fun y _ => by simp [E4])
variable (hm : Fd L = true)
include hm
theorem cutL_may (W : List (Int × Int)) : Fd (Nb L W) = true := by
  obtain ⟨h1, h2, h3⟩ := mayS_iff.1 hm; refine mayS_iff.2 ⟨by rw [Ny]; exact h1, by rw [Ny]; exact h2, fun i hi => ?_⟩; rw [Ny] at hi; rw [cutL_at hi, Ny]; unfold H1; exact okL_of (fun x hx => Ju (h3 i hi) (List.mem_filter.1 hx).1) (List.Pairwise.filter _ (Z1 (h3 i hi)))
theorem round_L1 (W : List (Int × Int)) (hW : W.length ≤ 4096) {a k : Nat} (ha : a < L.length) (hk : k < (L.getD a []).length) : Au (Ch (Fp L) W (a : Int) (k : Int)) (true, (0 : Int)) = some (E4 W (a : Int) ((L.getD a []).getD k 0)) := by
  have _hm := hm; have hg : (Fp L).Succ = L := rfl
  have e : E4 W (a : Int) ((L.getD a []).getD k 0) = (W.take W.length).all fun p => !((p.1 == (a : Int)) && (p.2 == (L.getD a []).getD k 0)) := by rw [List.take_length]; rfl
  rw [e]; refine Ck (Ch (Fp L) W (a : Int) (k : Int)) (fun m => ((W.take m).all fun p => !((p.1 == (a : Int)) && (p.2 == (L.getD a []).getD k 0)), ((m : Nat) : Int))) _ W.length (fun m hmm => ?_) ?_
  · show Ch _ _ _ _ (_, (m : Int)) = _
    unfold Ch; simp only [hg, Ca hmm, cond_true, Ap]; rw [Ac (fun _ => De hmm), Ac (fun _ => De ha), Ac (fun _ => De hk), w1 (by omega), List.take_succ_eq_append_getElem hmm, List.all_append, List.all_cons, List.all_nil, Bool.and_true, Ak _ _ _ hmm, Bool.and_true]
    cases (W.take m).all fun p => !((p.1 == (a : Int)) && (p.2 == (L.getD a []).getD k 0)) <;> rfl
  · show Ch _ _ _ _ (_, _) = _
    unfold Ch; simp only [Di, cond_false]
theorem round_L2 (W : List (Int × Int)) (hW : W.length ≤ 4096) {a : Nat} (ha : a < L.length) (l : List (List Int)) (hl : l.length = L.length) (h0 : l.getD a [] = []) : Au (Bm (Fp L) W (a : Int)) ((0 : Int), l) = some (l.set a (H1 L W a)) := by
  have hroom : (1000 : Nat) ≤ room := by decide
  have hg : (Fp L).Succ = L := rfl; obtain ⟨_, h64, hok⟩ := mayS_iff.1 hm
  have hrl : (L.getD a []).length ≤ 64 := by have := H6 (hok a ha); omega
  have hal : a < l.length := by omega
  have hlen : ∀ m, (((L.getD a []).take m).filter (E4 W (a : Int))).length ≤ m := fun m => Nat.le_trans (List.length_filter_le ..) (by simp; omega)
  have e : l.set a (H1 L W a) = l.set a (((L.getD a []).take (L.getD a []).length).filter (E4 W (a : Int))) := by rw [List.take_length]; rfl
  have e0 : l = l.set a (((L.getD a []).take 0).filter (E4 W (a : Int))) := by
    rw [List.take_zero, List.filter_nil]; rw [Ak _ _ _ hal] at h0; rw [← h0]; exact (List.set_getElem_self hal).symm
  have hgo : Au (Bm (Fp L) W (a : Int)) ((0 : Int), l.set a (((L.getD a []).take 0).filter (E4 W (a : Int)))) = some (l.set a (((L.getD a []).take (L.getD a []).length).filter (E4 W (a : Int)))) := by
    refine Ck (Bm (Fp L) W (a : Int)) (fun m => (((m : Nat) : Int), l.set a (((L.getD a []).take m).filter (E4 W (a : Int))))) _ (L.getD a []).length (fun m hmm => ?_) ?_
    · show Bm _ _ _ ((m : Int), _) = _
      unfold Bm
      have hat : (l.set a (((L.getD a []).take m).filter (E4 W (a : Int)))).getD a [] = ((L.getD a []).take m).filter (E4 W (a : Int)) := by rw [Ak _ _ _ (by simpa using hal)]; simp
      have hil : A3 (a : Int) (l.set a (((L.getD a []).take m).filter (E4 W (a : Int)))).length := De (by simpa using hal); have hl2 := hlen m; simp only [hg, Ap, Ca hmm, cond_true, round_L1 hm W hW ha hmm, Option.bind_some, hat, List.set_set]
      have hnx : ((L.getD a []).take (m + 1)).filter (E4 W (a : Int)) = ((L.getD a []).take m).filter (E4 W (a : Int)) ++ (if E4 W (a : Int) ((L.getD a []).getD m 0) = true then [(L.getD a []).getD m 0] else []) := by
        rw [List.take_succ_eq_append_getElem hmm, List.filter_append, Ak _ _ _ hmm]; rw [List.filter_cons, List.filter_nil]
      rw [Ac (De ha), hnx]
      cases E4 W (a : Int) ((L.getD a []).getD m 0) with
      | true => rw [cond_true, Ac hil, Ac hil, Ac (De ha), Ac (De hmm), Ac (by simp only [List.length_cons, List.length_nil]; omega), Ac hil, Option.bind_some, w1 (by omega), if_pos rfl]
      | false => rw [cond_false, Option.bind_some, w1 (by omega), if_neg (by simp), List.append_nil]
    · show Bm _ _ _ (_, _) = _
      unfold Bm; simp only [hg, Ap, Di, cond_false]; rw [Ac (De ha)]
  rw [e, ← hgo]; exact congrArg (fun z => Au (Bm (Fp L) W (a : Int)) ((0 : Int), z)) e0
theorem round_L3 (W : List (Int × Int)) (hW : W.length ≤ 4096) : Au (Ce (Fp L) W) ((0 : Int), List.replicate L.length ([] : List Int)) = some (Nb L W) := by
  obtain ⟨_, h64, _⟩ := mayS_iff.1 hm
  have e0 : List.replicate L.length ([] : List Int) = (List.range L.length).map fun a => if a < 0 then H1 L W a else [] := by
    refine List.ext_getElem (by simp) fun i g1 g2 => by simp
  have e1 : Nb L W = (List.range L.length).map fun a => if a < L.length then H1 L W a else [] := Dn fun a ha => by rw [if_pos ha]
  rw [e0, e1]; refine Ck (Ce (Fp L) W) (fun m => (((m : Nat) : Int), (List.range L.length).map fun a => if a < m then H1 L W a else [])) _ L.length (fun m hmm => ?_) ?_
  · show Ce _ _ ((m : Int), _) = _
    unfold Ce; simp only [List.length_map, List.length_range, Ca hmm, cond_true]; rw [round_L2 hm W hW hmm _ (by simp) (by rw [Hq hmm, if_neg (by omega)]), Option.bind_some, w1 (by omega), K7]
    congr 3
    refine Dn fun x hx => ?_
    by_cases e : x = m
    · subst e; rw [if_pos rfl, if_pos (by omega)]
    · rw [if_neg e]
      by_cases e2 : x < m
      · rw [if_pos e2, if_pos (by omega)]
      · rw [if_neg e2, if_neg (by omega)]
  · show Ce _ _ (_, _) = _
    unfold Ce; simp only [List.length_map, List.length_range, Di, cond_false]
end
theorem Zf {C : List (List Int)} (hm : Fd C = true) {a : Nat} (ha : a < C.length) : Au (Be C (Fp C, 0) (Dg C 0 (-1)) (a : Int)) (0 : Int) = some (bif Ho C a then .inr true else .inl ()) := by
  obtain ⟨_, h64, hok⟩ := mayS_iff.1 hm
  have hrl : (C.getD a []).length ≤ 64 := by have := H6 (hok a ha); omega
  have hia : A3 (a : Int) (Dg C 0 (-1)).length := De (by rw [Io]; exact ha)
  cases hst : (Dg C 0 (-1)).getD a false with
  | false =>
    have : Ho C a = false := by unfold Ho; rw [hst, Bool.false_and]
    rw [this]
    apply Bb
    unfold Be; simp only [Ap, hst, cond_false]; rw [Ac hia, Ac (fun h => by cases h)]
  | true =>
    have hr : Ho C a = !(List.range (C.getD a []).length).all fun k => !(Dg C ((C.getD a []).getD k 0).toNat (-1)).getD a false := by
      unfold Ho; rw [hst, Bool.true_and, Bool.eq_iff_iff, Bool.not_eq_true', ← Bool.not_eq_true, all_range, List.any_eq_true]
      constructor
      · rintro ⟨y, hy, h⟩ hall; obtain ⟨k, hk, e⟩ := List.getElem_of_mem hy; have := hall k hk; rw [Ak _ _ _ hk, e, h] at this
        cases this
      · intro h; refine Classical.byContradiction fun hno => h fun k hk => ?_
        cases hR : (Dg C ((C.getD a []).getD k 0).toNat (-1)).getD a false with
        | false => rfl
        | true => exact absurd ⟨_, Ff hk, hR⟩ hno
    rw [hr]
    have hb : ∀ b : Bool, (bif !b then (Sum.inr true : Unit ⊕ Bool) else .inl ()) = bif b then .inl () else .inr true := fun b => by cases b <;> rfl
    rw [hb]
    have hstep : ∀ k, k < (C.getD a []).length → Be C (Fp C, 0) (Dg C 0 (-1)) (a : Int) (k : Int) = bif (Dg C ((C.getD a []).getD k 0).toNat (-1)).getD a false then some (.done (.inr true)) else some (.next ((k + 1 : Nat) : Int)) := fun k hk => by
      unfold Be; obtain ⟨z0, z1⟩ := Ju (hok a ha) (Ff (d := (0 : Int)) hk); have hze : ((((C.getD a []).getD k 0).toNat : Nat) : Int) = (C.getD a []).getD k 0 := Int.toNat_of_nonneg z0; have hR := Lw hm (r := ((C.getD a []).getD k 0).toNat) (by omega) (-1); rw [hze] at hR; simp only [Ap, hst, cond_true, Ca hk, hR, Option.bind_some]; rw [Ac hia, Ac (fun _ => De ha), Ac (De ha), Ac (De hk), Ac (De (by rw [Io]; exact ha)), w1 (by omega)]
    refine Fl (Be C (Fp C, 0) (Dg C 0 (-1)) (a : Int)) (fun k => ((k : Nat) : Int)) (fun k => !(Dg C ((C.getD a []).getD k 0).toNat (-1)).getD a false) (.inl ()) (.inr true) _ (fun k hk hp => ?_) (fun k hk hp => ?_) ?_
    · show Be _ _ _ _ (k : Int) = _
      rw [hstep k hk]; rw [Bool.not_eq_true'] at hp; rw [hp, cond_false]
    · show Be _ _ _ _ (k : Int) = _
      rw [hstep k hk]
      have hp : (Dg C ((C.getD a []).getD k 0).toNat (-1)).getD a false = true := by simpa using hp
      rw [hp, cond_true]
    · show Be _ _ _ _ _ = _
      unfold Be; simp only [Ap, hst, cond_true, Di, cond_false]; rw [Ac hia, Ac (fun _ => De ha)]
theorem round_L5 {C : List (List Int)} (hm : Fd C = true) : Au (Bn C (Fp C, 0) (Dg C 0 (-1))) (0 : Int) = some (bif Me C then .inr true else .inl ()) := by
  obtain ⟨_, h64, hok⟩ := mayS_iff.1 hm
  have hr : Me C = !(List.range C.length).all fun a => !Ho C a := by
    unfold Me; rw [Bool.eq_iff_iff, Bool.not_eq_true', ← Bool.not_eq_true, all_range, List.any_eq_true]
    constructor
    · rintro ⟨a, ha, h⟩ hall; have := hall a (List.mem_range.1 ha); rw [h] at this; cases this
    · intro h; refine Classical.byContradiction fun hno => h fun a ha => ?_
      cases hR : Ho C a with
      | false => rfl
      | true => exact absurd ⟨a, List.mem_range.2 ha, hR⟩ hno
  have hb : ∀ b : Bool, (bif !b then (Sum.inr true : Unit ⊕ Bool) else .inl ()) = bif b then .inl () else .inr true := fun b => by cases b <;> rfl
  rw [hr, hb]; refine Fl (Bn C (Fp C, 0) (Dg C 0 (-1))) (fun a => ((a : Nat) : Int)) (fun a => !Ho C a) (.inl ()) (.inr true) _ (fun a ha hp => ?_) (fun a ha hp => ?_) ?_
  · show Bn _ _ _ (a : Int) = _
    unfold Bn; rw [Bool.not_eq_true'] at hp; simp only [Ca ha, cond_true, Zf hm ha, hp, cond_false, Option.bind_some]; rw [w1 (by omega)]
  · show Bn _ _ _ (a : Int) = _
    unfold Bn
    have hp : Ho C a = true := by simpa using hp
    simp only [Ca ha, cond_true, Zf hm ha, hp, Option.bind_some]
  · show Bn _ _ _ _ = _
    unfold Bn; simp only [Di, cond_false]
theorem R9 {L : List (List Int)} (hm : Fd L = true) (W : List (Int × Int)) (hW : W.length ≤ 4096) : D1 (Fp L) W = some (Ik L W) := by
  have hroom : (1000 : Nat) ≤ room := by decide
  have hg : (Fp L).Succ = L := rfl; obtain ⟨h1, h64, _⟩ := mayS_iff.1 hm; have hc := cutL_may hm W; unfold D1; simp only [hg]; rw [Ac ⟨by omega, by omega, by omega⟩, Ap, round_L3 hm W hW, Option.bind_some, Vl _ (Il (J4 hc)), hc, cond_true, Option.bind_some]
  show Option.bind (Bd (Fp (Nb L W)) ((0 : Nat) : Int) (-1)) _ = _
  rw [Lw hc (by rw [Ny]; omega), Option.bind_some, round_L5 hc]; unfold Ik
  cases Me (Nb L W) <;> rfl
def redG (g : TGraph) : Bool := H0 g && !Ik g.Succ (B3 g.Succ)
def Yo (g : TGraph) : Bool := H0 g && !Ik g.Succ []
theorem m_ref_red (g : TGraph) (h : Fits g.Succ) : Ds g = some (redG g) := by
  unfold Ds redG; rw [Oo _ h, Option.bind_some]
  cases hG : H0 g with
  | false => rfl
  | true =>
    obtain ⟨hm, hg⟩ := Ia hG
    have hb : Cm g = some (B3 g.Succ) := by rw [Nj g h]; unfold Gs; rw [if_pos hG]
    have hr := R9 hm (B3 g.Succ) (J0 (mayS_iff.1 hm).2.1); rw [← hg] at hr; simp only [beq_self_eq_true, cond_true, hb, Option.bind_some, hr, Bool.true_and]
theorem m_ref_fwd (g : TGraph) (h : Fits g.Succ) : Ef g = some (Yo g) := by
  unfold Ef Yo; rw [Oo _ h, Option.bind_some]
  cases hG : H0 g with
  | false => rfl
  | true =>
    obtain ⟨hm, hg⟩ := Ia hG; have hr := R9 hm [] (by simp); rw [← hg] at hr; simp only [beq_self_eq_true, cond_true, Option.bind_some, hr, Bool.true_and]
def Ij (l : List At) (x : Int) : Nat := (l.filter fun z => z.Body.contains x).length
structure Te : Prop where
  backs : ∀ (g : TGraph), Fits g.Succ → Fits g.Pred → E6 g = some (Gs g)
  all : ∀ (g : TGraph), Fits g.Succ → Fits g.Pred → Gy g = some (Dk g)
  depth : ∀ (g : TGraph) (x : Int), Fits g.Succ → Fits g.Pred → F0 g x = some ((Ij (Dk g) x : Nat) : Int)
  red : ∀ (g : TGraph), Fits g.Succ → Fits g.Pred → E1 g = some (redG g)
  fwd : ∀ (g : TGraph), Fits g.Succ → Fits g.Pred → Fa g = some (Yo g)
theorem backsG_len (g : TGraph) : (Gs g).length ≤ 4096 := by
  unfold Gs
  split
  · rename_i h; exact J0 (mayS_iff.1 (Ia h).1).2.1
  · simp
theorem bodyL_len (L : List (List Int)) (h : Nat) : (P4 L h).length ≤ L.length := T5 _ _
theorem Uh (g : TGraph) : (Dk g).length ≤ 64 ∧ ∀ l ∈ Dk g, l.Body.length ≤ 64 := by
  unfold Dk
  split
  · rename_i h
    have h64 := (mayS_iff.1 (Ia h).1).2.1; refine ⟨?_, fun l hl => ?_⟩
    · unfold Og; rw [List.length_map]; exact Nat.le_trans (List.length_filter_le ..) (by simpa using h64)
    · unfold Og at hl; obtain ⟨k, _, rfl⟩ := List.mem_map.1 hl; exact Nat.le_trans (bodyL_len _ _) h64
  · exact ⟨by simp, fun l hl => by cases hl⟩
def Hf : List (List Int) := [[1], [2, 3], [1], []]
theorem Mk : Fd Hf = true := by decide
theorem Yq : Og Hf = [⟨1, [1, 2]⟩] := by decide +kernel
theorem Yx : B3 Hf = [(2, 1)] := by decide +kernel
theorem wake10_red : Ik Hf (B3 Hf) = false := by decide +kernel
theorem wake10_fwd : Ik Hf [] = true := by decide +kernel
theorem m_awake10 (F : Te) : Ex = some true := by
  unfold Ex
  show Option.bind (F1 Hf) _ = _
  obtain ⟨h1, h2⟩ := Lu Mk; have hG : H0 (Fp Hf) = true := Ub Mk
  have hl : Dk (Fp Hf) = [⟨1, [1, 2]⟩] := by unfold Dk; rw [if_pos hG]; exact Yq
  have hb : Gs (Fp Hf) = [(2, 1)] := by unfold Gs; rw [if_pos hG]; exact Yx
  have hr : redG (Fp Hf) = true := by unfold redG; rw [hG, Bool.true_and]; show (!Ik Hf (B3 Hf)) = true; rw [wake10_red]; rfl
  have hf : Yo (Fp Hf) = false := by unfold Yo; rw [hG, Bool.true_and]; show (!Ik Hf []) = false; rw [wake10_fwd]; rfl
  rw [m_make Hf (Il (J4 Mk)), Mk, cond_true, Option.bind_some]; simp only [F.all _ h1 h2, F.backs _ h1 h2, F.depth _ _ h1 h2, F.red _ h1 h2, F.fwd _ h1 h2, Option.bind_some, hl, hb, hr, hf]; have i0 : A3 (0 : Int) ([⟨1, [1, 2]⟩] : List At).length := ⟨by decide, by decide⟩; have i1 : A3 (0 : Int) ([((2 : Int), (1 : Int))] : List (Int × Int)).length := ⟨by decide, by decide⟩
  have hi : Bo [1, 2] ([(1 : Int), (2 : Int)] : List (Int)) = some true := by rw [Xu _ _ (by decide)]; rfl
  rw [Ac (fun _ => i0), Ac (fun _ => i0)]
  show Option.bind (Bo [1, 2] [(1 : Int), (2 : Int)]) _ = _
  rw [hi, Option.bind_some, Ac (fun _ => i1)]; have d2 : Ij [⟨1, [1, 2]⟩] 2 = 1 := rfl; have d3 : Ij [⟨1, [1, 2]⟩] 3 = 0 := rfl; rw [d2, d3]
  rfl
theorem loops_same {l : List At} (h : l.length ≤ 64 ∧ ∀ z ∈ l, z.Body.length ≤ 64) : Ew l l = some true := by
  unfold Ew; rw [bne_self_eq_false, cond_false]
  have hl : Au (Cc l l) (0 : Int) = some (.inl ()) := by
    refine Ck (Cc l l) (fun i => ((i : Nat) : Int)) _ l.length (fun i hi => ?_) ?_
    · show Cc l l (i : Int) = _
      unfold Cc; have hb := h.2 _ (Ff (d := (default : At)) hi)
      have hs : Bo (l.getD i default).Body (l.getD i default).Body = some true := by rw [Xu _ _ (by omega)]; simp
      simp only [Ca hi, cond_true, Ap, bne_self_eq_false, beq_self_eq_true, hs, Option.bind_some, cond_false, Bool.not_true]; rw [Ac (De hi), Ac (De hi), Ac (fun _ => De hi), Ac (fun _ => De hi), w1 (by omega)]
    · show Cc l l _ = _
      unfold Cc; simp only [Di, cond_false]
  rw [hl]
  rfl
theorem Ud (l : List At) (x : Int) {m : Nat} (hm : m < l.length) : Ij (l.take (m + 1)) x = Ij (l.take m) x + if (l.getD m default).Body.contains x = true then 1 else 0 := by
  unfold Ij; rw [List.take_succ_eq_append_getElem hm, List.filter_append, List.length_append, Ak _ _ _ hm]
  congr 1
  rw [List.filter_cons, List.filter_nil]
  split <;> rfl
theorem deepN_le (l : List At) (x : Int) : Ij l x ≤ l.length := List.length_filter_le ..
theorem same10 (F : Te) (g : TGraph) (x : Int) (h1 : Fits g.Succ) (h2 : Fits g.Pred) : Ec g x = some true := by
  unfold Ec; have hbl := backsG_len g; obtain ⟨hll, hlb⟩ := Uh g; simp only [F.backs g h1 h2, Nj g h1, Option.bind_some, bne_self_eq_false, cond_false]
  have l1 : Au (Cp (Gs g) (Gs g)) (0 : Int) = some (.inl ()) := by
    refine Ck (Cp (Gs g) (Gs g)) (fun i => ((i : Nat) : Int)) _ (Gs g).length (fun i hi => ?_) ?_
    · show Cp _ _ (i : Int) = _
      unfold Cp; simp only [Ca hi, cond_true, Ap, beq_self_eq_true, Bool.and_self, Bool.not_true, cond_false]; rw [Ac (De hi), Ac (De hi), w1 (by omega)]
    · show Cp _ _ _ = _
      unfold Cp; simp only [Di, cond_false]
  have l2 : Au (Co x (Dk g)) ((0 : Int), (0 : Int)) = some ((Ij (Dk g) x : Nat) : Int) := by
    have e : Ij (Dk g) x = Ij ((Dk g).take (Dk g).length) x := by rw [List.take_length]
    rw [e]; refine Ck (Co x (Dk g)) (fun m => (((Ij ((Dk g).take m) x : Nat) : Int), ((m : Nat) : Int))) _ (Dk g).length (fun m hmm => ?_) ?_
    · show Co _ _ (_, (m : Int)) = _
      unfold Co; have hb := hlb _ (Ff (d := (default : At)) hmm); have hd := deepN_le ((Dk g).take m) x; have hd : Ij ((Dk g).take m) x ≤ 64 := Nat.le_trans hd (by rw [List.length_take]; omega); simp only [Ca hmm, cond_true, Ap, m_has _ _ (show ((Dk g).getD m default).Body.length < 4611686018427387904 by omega), Option.bind_some]; rw [Ac (De hmm), Ud _ _ hmm]
      cases ((Dk g).getD m default).Body.contains x with
      | true => rw [cond_true, Option.bind_some, w1 (by omega), w1 (by omega)]; rfl
      | false => rw [cond_false, Option.bind_some, w1 (by omega)]; rfl
    · show Co _ _ (_, _) = _
      unfold Co; simp only [Di, cond_false]
  simp only [l1, m_ref_loops g h1, Option.bind_some, l2, F.all g h1 h2, loops_same ⟨hll, hlb⟩, F.depth g x h1 h2, F.red g h1 h2, m_ref_red g h1, F.fwd g h1 h2, m_ref_fwd g h1, beq_self_eq_true, cond_true]
theorem all10 (F : Te) (a p : List (List Int)) (x : Int) (ha : a.length ≤ maxLen) (hp : p.length ≤ maxLen) : Fc a p x = some true := by
  unfold Fc; rw [m_awake10 F, Option.bind_some, Bool.not_true, cond_false]
  by_cases h14 : (14 : Int) < (a.length : Int)
  · rw [decide_eq_true h14]; rfl
  · rw [decide_eq_false h14]; simp only [beq_self_eq_true, cond_true, cond_false, m_small a (Xd ha), Option.bind_some]
    cases hs : Ry a with
    | false => rfl
    | true =>
      simp only [Bool.not_true, cond_false, beq_self_eq_true, cond_true, m_small p (Xd hp), Option.bind_some]
      cases hs2 : Ry p with
      | false => rfl
      | true =>
        have fa := R7 hs; have fp := R7 hs2; simp only [Bool.not_true, cond_false, m_make a fa, Option.bind_some, same10 F (⟨a, p⟩ : TGraph) x fa fp]
        cases hm : Fd a with
        | false => rfl
        | true =>
          obtain ⟨g1, g2⟩ := Lu hm; simp only [cond_true, beq_self_eq_true, same10 F (Fp a) x g1 g2, Option.bind_some, Bool.not_true, cond_false]
end
end Go.Proofs.Ytjpacggpipflcaa

namespace Go.Proofs.Ytjpacggpipflcaa
noncomputable section
open Go Go.RowKit
set_option linter.unusedVariables false
set_option linter.unusedSimpArgs false
section
variable {S : Nat → List Nat}
end
section
variable {L : List (List Int)} (hm : Fd L = true)
include hm
end
end
end Go.Proofs.Ytjpacggpipflcaa

namespace Go.Proofs.Ytjpacggpipflcaa
noncomputable section
open Go Go.RowKit
set_option linter.unusedVariables false
set_option linter.unusedSimpArgs false
section
variable {L : List (List Int)} (hm : Fd L = true)
include hm
end
end
end Go.Proofs.Ytjpacggpipflcaa

namespace Go.Proofs.Ytjpacggpipflcaa
noncomputable section
open Go Go.RowKit
set_option linter.unusedVariables false
set_option linter.unusedSimpArgs false
section
variable {k h : Nat}
variable (hh : h < k) (hk : k ≤ 60)
include hh hk
omit hh hk in
omit hh hk in
omit hk in
omit hh hk in
end
end
end Go.Proofs.Ytjpacggpipflcaa

namespace Go.Proofs.Ytjpacggpipflcaa
noncomputable section
open Go Go.RowKit
set_option linter.unusedVariables false
set_option linter.unusedSimpArgs false
end
end Go.Proofs.Ytjpacggpipflcaa

namespace Go.Proofs.Ytjpacggpipflcaa
noncomputable section
open Go Go.RowKit
set_option linter.unusedVariables false
set_option linter.unusedSimpArgs false
inductive Tp (t : List Int) : Nat → Nat → Nat → Prop
  | top {x : Nat} (hx : x < t.length) (h : t.getD x 0 = -1) : Tp t x x 0
  | up {x y r k : Nat} (hx : x < t.length) (h : t.getD x 0 = (y : Int)) (hk : Tp t y r k) : Tp t x r (k + 1)
section
variable {t : List Int}
theorem Tp.lt {x r k : Nat} (h : Tp t x r k) : x < t.length := by cases h <;> assumption
theorem Tp.tops {x r k : Nat} (h : Tp t x r k) : r < t.length ∧ t.getD r 0 = -1 := by
  induction h with
  | top hx h => exact ⟨hx, h⟩
  | up _ _ _ ih => exact ih
theorem Tp.det {x r k r' k' : Nat} (h : Tp t x r k) (h' : Tp t x r' k') : r = r' ∧ k = k' := by
  induction h generalizing k' with
  | top hx h => cases h' with
    | top => exact ⟨rfl, rfl⟩
    | up _ h2 _ => omega
  | up hx h1 _ ih => cases h' with
    | top _ h2 => omega
    | up _ h2 k2 =>
      have : _ = _ := h1.symm.trans h2
      cases Int.ofNat.inj this
      obtain ⟨e1, e2⟩ := ih k2; exact ⟨e1, by omega⟩
theorem Tp.upTo {x r k : Nat} (h : Tp t x r k) : UpTo (Bl t) x r := by
  induction h with
  | top => exact .refl _
  | up _ h _ ih => exact .up h ih
theorem Tp.on {x r k z : Nat} (h : Tp t x r k) (hz : UpTo (Bl t) x z) : ∃ j, j ≤ k ∧ Tp t z r j ∧ (j = k → z = x) := by
  induction hz generalizing k with
  | refl x => exact ⟨k, Nat.le_refl _, h, fun _ => rfl⟩
  | up hp _ ih =>
    cases h with
    | top _ h2 => have : _ = _ := hp.symm.trans h2; omega
    | up _ h2 k2 =>
      have : _ = _ := hp.symm.trans h2
      cases Int.ofNat.inj this
      obtain ⟨j, h1, h3, _⟩ := ih k2; exact ⟨j, by omega, h3, fun e => by omega⟩
theorem Tp.anti {x r k z : Nat} (h : Tp t x r k) (h1 : UpTo (Bl t) x z) (h2 : UpTo (Bl t) z x) : z = x := by
  obtain ⟨j, j1, j2, j3⟩ := h.on h1; obtain ⟨i, i1, i2, i3⟩ := j2.on h2; have := h.det i2; exact j3 (by omega)
theorem Tp.list {x r k : Nat} (h : Tp t x r k) : ∃ l : List Nat, l.length = k + 1 ∧ l.Nodup ∧ ∀ y ∈ l, y < t.length ∧ ∃ j, j ≤ k ∧ Tp t y r j := by
  induction h with
  | top hx h => exact ⟨[_], rfl, by simp, fun y hy => by rw [List.mem_singleton.1 hy]; exact ⟨hx, 0, Nat.le_refl _, .top hx h⟩⟩
  | @up x y r k hx h hk ih =>
    obtain ⟨l, h1, h2, h3⟩ := ih; refine ⟨x :: l, by simp [h1], List.nodup_cons.2 ⟨fun hm => ?_, h2⟩, fun z hz => ?_⟩
    · obtain ⟨_, j, hj, hj2⟩ := h3 _ hm; have := (Tp.up hx h hk).det hj2; omega
    · rcases List.mem_cons.1 hz with rfl | hz
      · exact ⟨hx, k + 1, Nat.le_refl _, .up hx h hk⟩
      · obtain ⟨e1, j, e2, e3⟩ := h3 z hz; exact ⟨e1, j, by omega, e3⟩
theorem Tp.short {x r k : Nat} (h : Tp t x r k) : k < t.length := by
  obtain ⟨l, h1, h2, h3⟩ := h.list; have := J1 t.length l h2 fun y hy => (h3 y hy).1; omega
theorem Tp.upD {x r k : Nat} (h : Tp t x r k) : ∀ m, k < m → ∃ q, upD t m (x : Int) = some q ∧ (∀ w : Int, w ∈ q ↔ ∃ z : Nat, w = (z : Int) ∧ UpTo (Bl t) x z) ∧
    ∀ p : Int → Bool, (q.find? p = none ∧ ∀ z : Nat, UpTo (Bl t) x z → p (z : Int) = false) ∨ ∃ f : Nat, q.find? p = some (f : Int) ∧ UpTo (Bl t) x f ∧ p (f : Int) = true ∧ ∀ z : Nat, UpTo (Bl t) x z → p (z : Int) = true → UpTo (Bl t) f z := by
  induction h with
  | @top x hx h =>
    intro m hm; obtain ⟨m, rfl⟩ : ∃ i, m = i + 1 := ⟨m - 1, by omega⟩
    have htop : ∀ z, UpTo (Bl t) x z ↔ z = x := fun z => Th fun p hp => by have : _ = _ := hp.symm.trans h; omega
    unfold Go.Proofs.Ytjpacggpipflcaa.upD; rw [if_pos ⟨by omega, by omega⟩, Ap, if_pos h]; refine ⟨_, rfl, fun w => ?_, fun p => ?_⟩
    · rw [List.mem_singleton]
      constructor
      · rintro rfl; exact ⟨x, rfl, .refl _⟩
      · rintro ⟨z, rfl, hz⟩; rw [(htop z).1 hz]
    · cases hpp : p (x : Int) with
      | false => exact .inl ⟨by simp [List.find?, hpp], fun z hz => by rw [(htop z).1 hz]; exact hpp⟩
      | true => exact .inr ⟨x, by simp [List.find?, hpp], .refl _, hpp, fun z hz _ => hz⟩
  | @up x y r k hx h hk ih =>
    intro m hm; obtain ⟨m, rfl⟩ : ∃ i, m = i + 1 := ⟨m - 1, by omega⟩; unfold Go.Proofs.Ytjpacggpipflcaa.upD; rw [if_pos ⟨by omega, by omega⟩, Ap, if_neg (by omega), h]; obtain ⟨q, hq1, hq2, hq3⟩ := ih m (by omega); rw [hq1]; refine ⟨(x : Int) :: q, rfl, fun w => ?_, fun p => ?_⟩
    · rw [List.mem_cons, hq2 w]
      constructor
      · rintro (rfl | ⟨y, rfl, hy⟩)
        · exact ⟨x, rfl, .refl _⟩
        · exact ⟨y, rfl, .up h hy⟩
      · rintro ⟨y, rfl, hy⟩; rcases (anc_up h).1 hy with rfl | hy
        · exact .inl rfl
        · exact .inr ⟨y, rfl, hy⟩
    · cases hpp : p (x : Int) with
      | true => exact .inr ⟨x, by simp [List.find?, hpp], .refl _, hpp, fun y hy _ => hy⟩
      | false =>
        have hf : ((x : Int) :: q).find? p = q.find? p := by simp [List.find?, hpp]
        rw [hf]; rcases hq3 p with ⟨e1, e2⟩ | ⟨f, e1, e2, e3, e4⟩
        · refine .inl ⟨e1, fun y hy => ?_⟩; rcases (anc_up h).1 hy with rfl | hy
          · exact hpp
          · exact e2 y hy
        · refine .inr ⟨f, e1, .up h e2, e3, fun y hy hpy => ?_⟩; rcases (anc_up h).1 hy with rfl | hy
          · rw [hpp] at hpy; cases hpy
          · exact e4 y hy hpy
theorem upD_tp : ∀ m (a : Int) q, upD t m a = some q → ∃ x r k : Nat, a = (x : Int) ∧ k < m ∧ Tp t x r k := by
  intro m
  induction m with
  | zero => intro a q h; cases h
  | succ m ih =>
    intro a q h; unfold Go.Proofs.Ytjpacggpipflcaa.upD at h
    by_cases ha : 0 ≤ a ∧ a < (t.length : Int)
    · rw [if_pos ha] at h; have e : ((a.toNat : Nat) : Int) = a := Int.toNat_of_nonneg ha.1
      by_cases h1 : t.getD a.toNat 0 = -1
      · exact ⟨a.toNat, a.toNat, 0, e.symm, by omega, .top (by omega) h1⟩
      · rw [if_neg h1] at h
        cases hu : Go.Proofs.Ytjpacggpipflcaa.upD t m (t.getD a.toNat 0) with
        | none => rw [hu] at h; cases h
        | some q' =>
          obtain ⟨y, r, k, e1, e2, e3⟩ := ih _ _ hu; exact ⟨a.toNat, r, k + 1, e.symm, by omega, .up (by omega) e1 e3⟩
    · rw [if_neg ha] at h; cases h
theorem pathD_tp {a : Int} : Ge t a ≠ [] ↔ ∃ x r k : Nat, a = (x : Int) ∧ Tp t x r k := by
  constructor
  · intro h
    cases hu : upD t t.length a with
    | none => exact absurd (pathD_nil.2 hu) h
    | some q => obtain ⟨x, r, k, e1, _, e2⟩ := upD_tp _ _ _ hu; exact ⟨x, r, k, e1, e2⟩
  · rintro ⟨x, r, k, rfl, h⟩ e; obtain ⟨q, hq, _⟩ := h.upD t.length h.short; rw [pathD_nil.1 e] at hq; cases hq
theorem Tp.path {x r k : Nat} (h : Tp t x r k) : (∀ w : Int, w ∈ Ge t (x : Int) ↔ ∃ z : Nat, w = (z : Int) ∧ UpTo (Bl t) x z) ∧
    ∀ p : Int → Bool, ((Ge t (x : Int)).find? p = none ∧ ∀ z : Nat, UpTo (Bl t) x z → p (z : Int) = false) ∨ ∃ f : Nat, (Ge t (x : Int)).find? p = some (f : Int) ∧ UpTo (Bl t) x f ∧ p (f : Int) = true ∧ ∀ z : Nat, UpTo (Bl t) x z → p (z : Int) = true → UpTo (Bl t) f z := by
  obtain ⟨q, h1, h2, h3⟩ := h.upD t.length h.short
  have e : Ge t (x : Int) = q := by unfold Ge; rw [h1]; rfl
  rw [e]; exact ⟨h2, h3⟩
theorem Un {α : Type} {l : List α} {i j : Nat} {x d : α} (hi : i < l.length) : (l.set i x).getD j d = if j = i then x else l.getD j d := by
  by_cases h : j = i
  · subst h; simp [List.getD, hi]
  · simp [List.getD, h, Ne.symm h]
theorem meet_L1 {x r k : Nat} (h : Tp t x r k) : ∀ l : List Bool, l.length = t.length → ∃ l', Au (D3 t) ((x : Int), l) = some l' ∧ l'.length = t.length ∧ ∀ z, z < t.length → (l'.getD z false = true ↔ l.getD z false = true ∨ UpTo (Bl t) x z) := by
  induction h with
  | @top x hx h =>
    intro l hl
    have hs : D3 t ((x : Int), l) = some (.next (-1, l.set x true)) := by
      unfold D3
      have hb : ((x : Int) != (-1 : Int)) = true := by rw [bne_iff_ne]; omega
      simp only [hb, cond_true, Ap, h]; rw [Ac (De (by omega)), Ac (De hx)]
    have hd : D3 t (-1, l.set x true) = some (.done (l.set x true)) := by
      unfold D3
      rfl
    refine ⟨l.set x true, by rw [B8 hs, Bb hd], by simp [hl], fun z hz => ?_⟩; rw [Un (by omega)]
    have htop : UpTo (Bl t) x z ↔ z = x := Th fun p hp => by have : _ = _ := hp.symm.trans h; omega
    rw [htop]
    by_cases e : z = x
    · simp [e]
    · simp [e]
  | @up x y r k hx h hk ih =>
    intro l hl
    have hs : D3 t ((x : Int), l) = some (.next ((y : Int), l.set x true)) := by
      unfold D3
      have hb : ((x : Int) != (-1 : Int)) = true := by rw [bne_iff_ne]; omega
      simp only [hb, cond_true, Ap, h]; rw [Ac (De (by omega)), Ac (De hx)]
    obtain ⟨l', e1, e2, e3⟩ := ih (l.set x true) (by simp [hl]); refine ⟨l', by rw [B8 hs, e1], e2, fun z hz => ?_⟩; rw [e3 z hz, Un (by omega), anc_up (par := Bl t) h]
    by_cases e : z = x
    · simp [e]
    · simp [e]
theorem meet_L2 {b r k : Nat} (h : Tp t b r k) (l : List Bool) (hl : l.length = t.length) : l.getD r false = true → ∃ c : Nat, Au (D5 t l) (b : Int) = some (c : Int) ∧ UpTo (Bl t) b c ∧ l.getD c false = true ∧ ∀ z, UpTo (Bl t) b z → l.getD z false = true → UpTo (Bl t) c z := by
  induction h with
  | @top x hx h =>
    intro hr
    have hd : D5 t l (x : Int) = some (.done (x : Int)) := by
      unfold D5; rw [Ac (De (by omega)), Ap, hr]
      rfl
    exact ⟨x, Bb hd, .refl _, hr, fun z hz _ => hz⟩
  | @up x y r k hx h hk ih =>
    intro hr
    cases hx2 : l.getD x false with
    | true =>
      have hd : D5 t l (x : Int) = some (.done (x : Int)) := by
        unfold D5; rw [Ac (De (by omega)), Ap, hx2]
        rfl
      exact ⟨x, Bb hd, .refl _, hx2, fun z hz _ => hz⟩
    | false =>
      have hs : D5 t l (x : Int) = some (.next (y : Int)) := by
        unfold D5; rw [Ac (De (by omega)), Ap, hx2, Bool.not_false, cond_true, Ac (De hx), h]
      obtain ⟨c, e1, e2, e3, e4⟩ := ih hr; refine ⟨c, by rw [B8 hs, e1], .up h e2, e3, fun z hz hlz => ?_⟩; rcases (anc_up (par := Bl t) h).1 hz with rfl | hz
      · rw [hx2] at hlz; cases hlz
      · exact e4 z hz hlz
theorem R6 (ht : t.length ≤ 1000) {a b r k m : Nat} (ha : Tp t a r k) (hb : Tp t b r m) : ∃ c : Nat, Gz t (a : Int) (b : Int) = some (c : Int) ∧ MeetAt (Bl t) a b c := by
  unfold Gz
  have hroom : (1000 : Nat) ≤ room := by decide
  rw [Ac ⟨by omega, by omega, by omega⟩, Ap]; obtain ⟨l', h1, h2, h3⟩ := meet_L1 ha (List.replicate t.length false) (by simp); rw [h1, Option.bind_some]
  have h3' : ∀ z, z < t.length → (l'.getD z false = true ↔ UpTo (Bl t) a z) := fun z hz => by rw [h3 z hz, Hn]; simp
  obtain ⟨c, e1, e2, e3, e4⟩ := meet_L2 hb l' h2 ((h3' r ha.tops.1).2 ha.upTo)
  have hc : c < t.length := by obtain ⟨j, _, hj, _⟩ := hb.on e2; exact hj.lt
  refine ⟨c, by rw [e1]; rfl, fun w => ⟨fun hw => ⟨((h3' c hc).1 e3).trans hw, e2.trans hw⟩, fun ⟨hw1, hw2⟩ => ?_⟩⟩; obtain ⟨j, _, hj, _⟩ := ha.on hw1; exact e4 w hw2 ((h3' w hj.lt).2 hw1)
theorem meetD_at (hR : G2 t = true) {a b r k m : Nat} (ha : Tp t a r k) (hb : Tp t b r m) : ∃ c : Nat, Ls t (a : Int) (b : Int) = (c : Int) ∧ MeetAt (Bl t) a b c := by
  unfold Ls; rw [if_pos hR]
  have hcon : ∀ z : Nat, (Ge t (b : Int)).contains (z : Int) = true ↔ UpTo (Bl t) b z := fun z => by
    rw [List.contains_iff_mem, hb.path.1]
    constructor
    · rintro ⟨y, e, hy⟩; cases Int.ofNat.inj e; exact hy
    · intro hz; exact ⟨z, rfl, hz⟩
  rcases ha.path.2 (fun x => (Ge t (b : Int)).contains x) with ⟨e1, e2⟩ | ⟨f, e1, e2, e3, e4⟩
  · have := e2 r ha.upTo; rw [(hcon r).2 hb.upTo] at this
    cases this
  · exact ⟨f, by rw [e1]; rfl, fun w => ⟨fun hw => ⟨e2.trans hw, ((hcon f).1 e3).trans hw⟩, fun ⟨hw1, hw2⟩ => e4 w hw1 ((hcon w).2 hw2)⟩⟩
theorem MeetAt.same {a b r k c d : Nat} (ha : Tp t a r k) (hc : MeetAt (Bl t) a b c) (hd : MeetAt (Bl t) a b d) : c = d := by
  obtain ⟨j, _, hj, _⟩ := ha.on ((hc c).1 (.refl _)).1; exact (hj.anti ((hc d).2 ((hd d).1 (.refl _))) ((hd c).2 ((hc c).1 (.refl _)))).symm
end
end
end Go.Proofs.Ytjpacggpipflcaa
