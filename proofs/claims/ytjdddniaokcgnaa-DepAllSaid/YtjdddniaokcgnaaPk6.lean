/-
  The machine, the program's functions and the laws' arithmetic: part 6 of 7.
-/
import Derived.Test.YtjdddniaokcgnaaPk5
set_option linter.unusedVariables false
set_option linter.unusedSimpArgs false
namespace Go.Proofs.Ytjdddniaokcgnaa
noncomputable section
open Go Go.RowKit
set_option linter.unusedVariables false
set_option maxRecDepth 100000
set_option maxHeartbeats 2000000
def Bt (a_g : TGraph) (a_p2 : Int) (i6 : Int) : (Int × List (Bool)) → Option (LR (Int × List (Bool)) (List (Bool))) :=
  fun ((i9, l10) : (Int × List (Bool))) => (Bw (A4 i6 l10.length) (Bw (((l10.getD (i6).toNat false) == true) = true → (A4 i6 a_g.Succ.length)) (bif (bif (l10.getD (i6).toNat false) then (decide ((i9 : Int) < ((a_g.Succ.getD (i6).toNat []).length : Int))) else false) then (Option.bind (α := List (Bool)) (Bw (A4 i6 a_g.Succ.length) (Bw (A4 i9 (a_g.Succ.getD (i6).toNat []).length) (bif ((((a_g.Succ.getD (i6).toNat []).getD (i9).toNat (0 : Int)) : Int) != a_p2) then (Bw (A4 i6 a_g.Succ.length) (Bw (A4 i9 (a_g.Succ.getD (i6).toNat []).length) (Bw (A4 ((a_g.Succ.getD (i6).toNat []).getD (i9).toNat (0 : Int)) l10.length) (some ((l10.set (((a_g.Succ.getD (i6).toNat []).getD (i9).toNat (0 : Int))).toNat true)))))) else (some (l10))))) (fun x20 => ((some (.next ((Bi (i9 + (1 : Int))), x20)))))) else (some (.done l10)))))
def B8 (a_g : TGraph) (a_p2 : Int) : (Int × List (Bool)) → Option (LR (Int × List (Bool)) (List (Bool))) :=
  fun ((i6, l7) : (Int × List (Bool))) => (bif (decide ((i6 : Int) < (l7.length : Int))) then ((Aw (S := (Int × List (Bool))) (X := List (Bool)) (Bt a_g a_p2 i6) ((0 : Int), l7)).bind (fun x22 => ((some (.next ((Bi (i6 + (1 : Int))), x22)))))) else (some (.done l7)))
def B9 (a_g : TGraph) (a_p2 : Int) : (Int × List (Bool)) → Option (LR (Int × List (Bool)) (List (Bool))) :=
  fun ((i3, l4) : (Int × List (Bool))) => (bif (decide ((i3 : Int) < (l4.length : Int))) then ((Aw (S := (Int × List (Bool))) (X := List (Bool)) (B8 a_g a_p2) ((0 : Int), l4)).bind (fun x24 => ((some (.next ((Bi (i3 + (1 : Int))), x24)))))) else (some (.done l4)))
def Iw (a_p2 : Int) : AV := (.int .i64 a_p2)
def Wj (a_g : TGraph) := (a_g.Succ.length : Int)
def Mz (a_g : TGraph) := (List.replicate ((Wj a_g)).toNat false)
def Q322 (a_g : TGraph) (a_p1 : Int) := ((Mz a_g).set (a_p1).toNat true)
def O4 (l10 : List (Bool)) (i6 : Int) := ((l10.getD (i6).toNat false) == true)
def Q321 (a_g : TGraph) := (fun i => eB ((Mz a_g).getD i false))
def Q316 (a_g : TGraph) (i6 : Int) (i9 : Int) := ((a_g.Succ.getD (i6).toNat []).getD (i9).toNat (0 : Int))
def Ll (a_g : TGraph) : List AV := [(AV.list 1 eLI64 [] a_g.Succ .none), (AV.list 1 eLI64 [] a_g.Pred .none)]
def Q318 (a_g : TGraph) (l4 : List (Bool)) : List (Nat × Own) := [(3, .row 26 (Ll a_g)), (14, .arr 1 4 l4.length (fun i => eB (l4.getD i false)))]
def Q319 (a_g : TGraph) (l7 : List (Bool)) : List (Nat × Own) := [(3, .row 26 (Ll a_g)), (14, .arr 1 4 l7.length (fun i => eB (l7.getD i false)))]
def Q317 (a_g : TGraph) (l10 : List (Bool)) : List (Nat × Own) := [(3, .row 26 (Ll a_g)), (14, .arr 1 4 l10.length (fun i => eB (l10.getD i false)))]
def Q315 (a_p2 : Int) (l10 : List (Bool)) (i3 : Int) (i6 : Int) (i9 : Int) : List (Nat × AV) := [(2, (Iw a_p2)), (3, (.ptr 3 0)), (7, (.vsl 14 l10.length)), (8, (.int .i64 i3)), (9, (.int .i64 i6)), (10, (.int .i64 i9))]
def Bp (a_g : TGraph) (a_p1 : Int) (a_p2 : Int) : Option (List (Bool)) :=
  (Bw (0 ≤ (a_g.Succ.length : Int) ∧ (a_g.Succ.length : Int) ≤ (a_g.Succ.length : Int) ∧ (a_g.Succ.length : Int) ≤ (room : Int)) (bif ((a_p1 : Int) == a_p2) then (some (List.replicate ((a_g.Succ.length : Int)).toNat false)) else (Bw (A4 a_p1 (List.replicate ((a_g.Succ.length : Int)).toNat false).length) ((Aw (S := (Int × List (Bool))) (X := List (Bool)) (B9 a_g a_p2) ((0 : Int), ((List.replicate ((a_g.Succ.length : Int)).toNat false).set (a_p1).toNat true))).bind (fun x26 => ((some x26)))))))
theorem Eg (a_g : TGraph) (a_p1 : Int) (a_p2 : Int) (r : List (Bool)) (h : Bp a_g a_p1 a_p2 = some r) : Spec Try.prog 17 [(.agg (At a_g)), (.int .i64 a_p1), (.int .i64 a_p2)] [] (AV.list 1 eB false r (.own 20000)) [(20000, .tok 1 4 r.length)] := by
  refine Ap (fn := Try.f17) Try.func17 rfl rfl (by kernel_rfl) (fun Γ hn hΓ => ?_); have hq : RgQ Try.prog Γ 71 [] := ⟨hn, mix, hΓ⟩; unfold Bp at h; refine B5 [] [(6, (AV.list 1 eB false ([] : List Bool) .exact))] ⟨[(1, (.int .i64 a_p1)), (2, (Iw a_p2)), (3, (.ptr 3 0))], [(3, .row 26 (Ll a_g))], []⟩ [(AVle (.slice 0 0 (fun _ => []) .exact) (AV.list 1 eB false ([] : List Bool) .exact))] hq ⟨Cs, trivial⟩ ?_; obtain ⟨hc1, h⟩ := Ab h; refine B5 [] [] ⟨[(1, (.int .i64 a_p1)), (2, (Iw a_p2)), (3, (.ptr 3 0)), (7, (.vsl 14 ((Wj a_g)).toNat))], [(3, .row 26 (Ll a_g)), (14, .arr 1 4 (((Wj a_g)).toNat) (fun i_ => AV.eraseAll (fun n_ => Cl n_ [3, 14]) ((fun _ => [(.bool false)]) i_)))], []⟩ [(0 ≤ (Wj a_g) ∧ (Wj a_g) ≤ (Wj a_g) ∧ (Wj a_g) ≤ (room : Int))] hq ⟨hc1, trivial⟩ ?_; refine Af (Le.trans (B6 (st' := ⟨[(1, (.int .i64 a_p1)), (2, (Iw a_p2)), (3, (.ptr 3 0)), (7, (.vsl 14 ((Wj a_g)).toNat))], [(3, .row 26 (Ll a_g)), (14, .arr 1 4 (((Wj a_g)).toNat) (Q321 a_g))], []⟩) (TmpsLe.refl _) (.same (.arr (fun k hk => J5 (e := eB) (d := false) (.cons (AVle.refl _) .nil) _ k (Ju hk)) .nil))) (Ba (congrArg (fun k_ : Nat => (⟨[(1, (.int .i64 a_p1)), (2, (Iw a_p2)), (3, (.ptr 3 0)), (7, (.vsl 14 k_))], [(3, .row 26 (Ll a_g)), (14, .arr 1 4 k_ (Q321 a_g))], []⟩ : St)) (show ((Wj a_g)).toNat = (Mz a_g).length from (List.length_replicate ..).symm)))) ?_; refine Ac ?_; refine Aq ⟨[(1, (.int .i64 a_p1)), (2, (Iw a_p2)), (3, (.ptr 3 0)), (7, (.vsl 14 (Mz a_g).length)), (17, (.bool ((a_p1 : Int) == a_p2)))], [(3, .row 26 (Ll a_g)), (14, .arr 1 4 ((Mz a_g).length) (Q321 a_g))], []⟩ hq ?_; refine Ai ((a_p1 : Int) == a_p2) (by kernel_rfl) (fun hb => ?_) (fun hb => ?_)
  · replace h := Ak hb h; clear hb; refine Aq ⟨[(6, (.vsl 14 (Mz a_g).length))], [(14, .arr 1 4 ((Mz a_g).length) (Q321 a_g))], []⟩ hq ?_; refine Af (Le.trans (Es (nm := 14) (sz := 1) (n := ((Mz a_g).length)) (e := 4) (f := (Q321 a_g)) (g := (Q321 a_g)) rfl ⟨rfl, trivial⟩ (fun _ _ => rfl) (by rw [hΓ]; rfl)) (Ba (st' := ⟨[(6, (AV.list 1 eB false (Mz a_g) (.own 14)))], [(14, .tok 1 4 ((Mz a_g).length))], []⟩) (by kernel_rfl))) ?_; refine Ao ?_; refine Ay ?_; obtain rfl := OI h; exact ⟨.inl rfl, [(14, 20000)], by kernel_rfl⟩
  · replace h := Ar hb h; clear hb; refine Ag ?_; refine Aa ?_; obtain ⟨hc2, h⟩ := Ab h; refine B5 [] [] ⟨[(2, (Iw a_p2)), (3, (.ptr 3 0)), (7, (.vsl 14 (Mz a_g).length))], [(3, .row 26 (Ll a_g)), (14, .arr 1 4 ((Mz a_g).length) (fun i_ => AV.eraseAll (fun n_ => Cl n_ [3, 14]) ((D0 (Q321 a_g) (a_p1).toNat 0 [(.bool true)]) i_)))], []⟩ [(A4 a_p1 (Mz a_g).length), ((Mz a_g).length = (Mz a_g).length)] hq ⟨hc2, rfl, trivial⟩ ?_; refine Af (Le.trans (B6 (st' := ⟨[(2, (Iw a_p2)), (3, (.ptr 3 0)), (7, (.vsl 14 (Mz a_g).length))], [(3, .row 26 (Ll a_g)), (14, .arr 1 4 ((Mz a_g).length) (fun i => eB ((Q322 a_g a_p1).getD i false)))], []⟩) (TmpsLe.refl _) (.same (.arr (Bv (List.length_set ..).symm (fun k_ hk_ => (congrArg (AV.eraseAll (fun n_ => Cl n_ [3, 14])) ((Gf (fun _ _ => rfl) (He hc2) rfl) k_ hk_)).trans rfl)) .nil))) (Ba (congrArg (fun k_ : Nat => (⟨[(2, (Iw a_p2)), (3, (.ptr 3 0)), (7, (.vsl 14 k_))], [(3, .row 26 (Ll a_g)), (14, .arr 1 4 k_ (fun i => eB ((Q322 a_g a_p1).getD i false)))], []⟩ : St)) (show (Mz a_g).length = (Q322 a_g a_p1).length from (List.length_set ..).symm)))) ?_; refine Ac ?_; refine Aq ⟨[(2, (Iw a_p2)), (3, (.ptr 3 0)), (7, (.vsl 14 (Q322 a_g a_p1).length)), (8, (.int .i64 (0 : Int)))], [(3, .row 26 (Ll a_g)), (14, .arr 1 4 ((Q322 a_g a_p1).length) (fun i => eB ((Q322 a_g a_p1).getD i false)))], []⟩ hq ?_; refine Ah ?_; refine Af (st' := (fun ((i3, l4) : (Int × List (Bool))) => (⟨[(2, (Iw a_p2)), (3, (.ptr 3 0)), (7, (.vsl 14 l4.length)), (8, (.int .i64 i3))], (Q318 a_g l4), []⟩ : St)) ((0 : Int), (Q322 a_g a_p1))) (Le.refl _ _) ?_; obtain ⟨x26, hx26, h⟩ := bind_some h; refine A2 (fun ((i3, l4) : (Int × List (Bool))) => (⟨[(2, (Iw a_p2)), (3, (.ptr 3 0)), (7, (.vsl 14 l4.length)), (8, (.int .i64 i3))], (Q318 a_g l4), []⟩ : St)) _ (fun (l5 : List (Bool)) (e : Exit) (st : St) => e = (.exit 0) ∧ Le Γ st (⟨[(7, (.vsl 14 l5.length))], [(14, .arr 1 4 l5.length (fun i => eB (l5.getD i false)))], []⟩ : St)) ?_ hx26 ?_
    · rintro ⟨i3, l4⟩ y h; unfold B9 at h; refine Ac ?_; refine Aq ⟨[(2, (Iw a_p2)), (3, (.ptr 3 0)), (7, (.vsl 14 l4.length)), (8, (.int .i64 i3)), (25, (.bool (decide ((i3 : Int) < (l4.length : Int)))))], (Q318 a_g l4), []⟩ hq ?_; refine Ai (decide ((i3 : Int) < (l4.length : Int))) (by kernel_rfl) (fun hb => ?_) (fun hb => ?_)
      · replace h := Ak hb h; clear hb; refine Ag ?_; refine Aa ?_; refine Ac ?_; refine Ah ?_; refine Aq ⟨[(2, (Iw a_p2)), (3, (.ptr 3 0)), (7, (.vsl 14 l4.length)), (8, (.int .i64 i3)), (9, (.int .i64 (0 : Int)))], (Q318 a_g l4), []⟩ hq ?_; refine Ah ?_; refine Af (st' := (fun ((i6, l7) : (Int × List (Bool))) => (⟨[(2, (Iw a_p2)), (3, (.ptr 3 0)), (7, (.vsl 14 l7.length)), (8, (.int .i64 i3)), (9, (.int .i64 i6))], (Q319 a_g l7), []⟩ : St)) ((0 : Int), l4)) (Le.refl _ _) ?_; obtain ⟨x24, hx24, h⟩ := bind_some h; refine A2 (fun ((i6, l7) : (Int × List (Bool))) => (⟨[(2, (Iw a_p2)), (3, (.ptr 3 0)), (7, (.vsl 14 l7.length)), (8, (.int .i64 i3)), (9, (.int .i64 i6))], (Q319 a_g l7), []⟩ : St)) _ (fun (l8 : List (Bool)) (e : Exit) (st : St) => e = (.exit 2) ∧ Le Γ st (⟨[(2, (Iw a_p2)), (3, (.ptr 3 0)), (7, (.vsl 14 l8.length)), (8, (.int .i64 i3))], [(3, .row 26 (Ll a_g)), (14, .arr 1 4 l8.length (fun i => eB (l8.getD i false)))], []⟩ : St)) ?_ hx24 ?_
        · rintro ⟨i6, l7⟩ y h; unfold B8 at h; refine Ac ?_; refine Aq ⟨[(2, (Iw a_p2)), (3, (.ptr 3 0)), (7, (.vsl 14 l7.length)), (8, (.int .i64 i3)), (9, (.int .i64 i6)), (31, (.bool (decide ((i6 : Int) < (l7.length : Int)))))], (Q319 a_g l7), []⟩ hq ?_; refine Ai (decide ((i6 : Int) < (l7.length : Int))) (by kernel_rfl) (fun hb => ?_) (fun hb => ?_)
          · replace h := Ak hb h; clear hb; refine Ag ?_; refine Aa ?_; refine Ac ?_; refine Ah ?_; refine Aq ⟨[(2, (Iw a_p2)), (3, (.ptr 3 0)), (7, (.vsl 14 l7.length)), (8, (.int .i64 i3)), (9, (.int .i64 i6)), (10, (.int .i64 (0 : Int)))], (Q319 a_g l7), []⟩ hq ?_; refine Ah ?_; refine Af (st' := (fun ((i9, l10) : (Int × List (Bool))) => (⟨(Q315 a_p2 l10 i3 i6 i9), (Q317 a_g l10), []⟩ : St)) ((0 : Int), l7)) (Le.refl _ _) ?_; obtain ⟨x22, hx22, h⟩ := bind_some h; refine A2 (fun ((i9, l10) : (Int × List (Bool))) => (⟨(Q315 a_p2 l10 i3 i6 i9), (Q317 a_g l10), []⟩ : St)) _ (fun (l11 : List (Bool)) (e : Exit) (st : St) => e = (.exit 4) ∧ Le Γ st (⟨[(2, (Iw a_p2)), (3, (.ptr 3 0)), (7, (.vsl 14 l11.length)), (8, (.int .i64 i3)), (9, (.int .i64 i6))], [(3, .row 26 (Ll a_g)), (14, .arr 1 4 l11.length (fun i => eB (l11.getD i false)))], []⟩ : St)) ?_ hx22 ?_
            · rintro ⟨i9, l10⟩ y h; unfold Bt at h; refine Ac ?_; obtain ⟨hc12, h⟩ := Ab h; obtain ⟨hc13, h⟩ := Ab h; refine B5 [] [] ⟨[(2, (Iw a_p2)), (3, (.ptr 3 0)), (7, (.vsl 14 l10.length)), (8, (.int .i64 i3)), (9, (.int .i64 i6)), (10, (.int .i64 i9)), (47, (.bool (bif (l10.getD (i6).toNat false) then (decide ((i9 : Int) < ((a_g.Succ.getD (i6).toNat []).length : Int))) else false)))], (Q317 a_g l10), []⟩ [(A4 i6 l10.length), (l10.length = l10.length), ((O4 l10 i6) = true → (O4 l10 i6) = true), ((O4 l10 i6) = true → (O4 l10 i6) = true), ((O4 l10 i6) = true → (O4 l10 i6) = true), ((O4 l10 i6) = true → (A4 i6 a_g.Succ.length)), ((O4 l10 i6) = true → (O4 l10 i6) = true), ((O4 l10 i6) = true → (O4 l10 i6) = true), ((O4 l10 i6) = true → (O4 l10 i6) = true), ((O4 l10 i6) = true → (O4 l10 i6) = true), ((l10.getD (i6).toNat false) = true → (O4 l10 i6) = true)] hq ⟨hc12, rfl, (fun hg => hg), (fun hg => hg), (fun hg => hg), (fun hg => (hc13 hg)), (fun hg => hg), (fun hg => hg), (fun hg => hg), (fun hg => hg), gT, trivial⟩ ?_; refine Ai (bif (l10.getD (i6).toNat false) then (decide ((i9 : Int) < ((a_g.Succ.getD (i6).toNat []).length : Int))) else false) (by kernel_rfl) (fun hb => ?_) (fun hb => ?_)
              · replace h := Ak hb h; clear hb; refine Ag ?_; refine Aa ?_; refine Ac ?_; obtain ⟨x20, hx20, h⟩ := bind_some h; refine E7 (fun (l14 : List (Bool)) (e : Exit) (st : St) => e = .normal ∧ Le Γ st (⟨[(2, (Iw a_p2)), (3, (.ptr 3 0)), (7, (.vsl 14 l14.length)), (8, (.int .i64 i3)), (9, (.int .i64 i6)), (10, (.int .i64 i9))], [(3, .row 26 (Ll a_g)), (14, .arr 1 4 l14.length (fun i => eB (l14.getD i false)))], []⟩ : St)) hx20 ?_ ?_
                · clear h hx20; intro y h; refine Ah ?_; obtain ⟨hc15, h⟩ := Ab h; obtain ⟨hc16, h⟩ := Ab h; refine B5 [] [] ⟨[(2, (Iw a_p2)), (3, (.ptr 3 0)), (7, (.vsl 14 l10.length)), (8, (.int .i64 i3)), (9, (.int .i64 i6)), (10, (.int .i64 i9)), (59, (.bool (((Q316 a_g i6 i9) : Int) != a_p2)))], (Q317 a_g l10), []⟩ [(A4 i6 a_g.Succ.length), (A4 i9 (a_g.Succ.getD (i6).toNat []).length)] hq ⟨hc15, hc16, trivial⟩ ?_; refine Ai (((Q316 a_g i6 i9) : Int) != a_p2) (by kernel_rfl) (fun hb => ?_) (fun hb => ?_)
                  · replace h := Ak hb h; clear hb; obtain ⟨hc17, h⟩ := Ab h; obtain ⟨hc18, h⟩ := Ab h; obtain ⟨hc19, h⟩ := Ab h; refine rg [] [] ⟨(Q315 a_p2 l10 i3 i6 i9), [(3, .row 26 (Ll a_g)), (14, .arr 1 4 l10.length (fun i_ => AV.eraseAll (fun n_ => Cl n_ [3, 14]) ((D0 (fun i => eB (l10.getD i false)) ((Q316 a_g i6 i9)).toNat 0 [(.bool true)]) i_)))], []⟩ [(A4 i6 a_g.Succ.length), (A4 i9 (a_g.Succ.getD (i6).toNat []).length), (A4 (Q316 a_g i6 i9) l10.length), (l10.length = l10.length)] hq ⟨hc17, hc18, hc19, rfl, trivial⟩ ?_; refine Aj ?_; obtain rfl := OI h; exact ⟨rfl, Le.trans (Le.trans (B6 (st' := ⟨(Q315 a_p2 l10 i3 i6 i9), [(3, .row 26 (Ll a_g)), (14, .arr 1 4 l10.length (fun i => eB ((l10.set ((Q316 a_g i6 i9)).toNat true).getD i false)))], []⟩) (TmpsLe.refl _) (.same (.arr (Bv (List.length_set ..).symm (fun k_ hk_ => (congrArg (AV.eraseAll (fun n_ => Cl n_ [3, 14])) ((Gf (fun _ _ => rfl) (He hc19) rfl) k_ hk_)).trans rfl)) .nil))) (Ba (congrArg (fun k_ : Nat => (⟨[(2, (Iw a_p2)), (3, (.ptr 3 0)), (7, (.vsl 14 k_)), (8, (.int .i64 i3)), (9, (.int .i64 i6)), (10, (.int .i64 i9))], [(3, .row 26 (Ll a_g)), (14, .arr 1 4 k_ (fun i => eB ((l10.set ((Q316 a_g i6 i9)).toNat true).getD i false)))], []⟩ : St)) (show l10.length = (l10.set ((Q316 a_g i6 i9)).toNat true).length from (List.length_set ..).symm)))) (Le.refl _ _)⟩
                  · replace h := Ar hb h; clear hb; refine Ag ?_; refine Aj ?_; obtain rfl := OI h; exact ⟨rfl, Ed [2, 3, 7, 8, 9, 10] [3, 14] hq⟩
                · clear hx20; rintro e st' ⟨rfl, hl21⟩; refine Aa ?_; refine Af hl21 ?_; refine Jt ⟨[(2, (Iw a_p2)), (3, (.ptr 3 0)), (7, (.vsl 14 x20.length)), (8, (.int .i64 i3)), (9, (.int .i64 i6)), (10, (.int .i64 (Bi (i9 + (1 : Int)))))], [(3, .row 26 (Ll a_g)), (14, .arr 1 4 x20.length (fun i => eB (x20.getD i false)))], []⟩ hq ?_; obtain rfl := OI h; exact ⟨rfl, Le.refl _ _⟩
              · replace h := Ar hb h; clear hb; refine A3 ?_; refine Az ?_; obtain rfl := OI h; exact ⟨(by intro hh; cases hh), rfl, Ed [2, 3, 7, 8, 9] [3, 14] hq⟩
            · clear hx22; rintro e st' ⟨rfl, hl23⟩; refine Au ?_; refine Aj ?_; refine Aa ?_; refine Af hl23 ?_; refine Jt ⟨[(2, (Iw a_p2)), (3, (.ptr 3 0)), (7, (.vsl 14 x22.length)), (8, (.int .i64 i3)), (9, (.int .i64 (Bi (i6 + (1 : Int)))))], [(3, .row 26 (Ll a_g)), (14, .arr 1 4 x22.length (fun i => eB (x22.getD i false)))], []⟩ hq ?_; obtain rfl := OI h; exact ⟨rfl, Le.refl _ _⟩
          · replace h := Ar hb h; clear hb; refine A3 ?_; refine Az ?_; obtain rfl := OI h; exact ⟨(by intro hh; cases hh), rfl, Ed [2, 3, 7, 8] [3, 14] hq⟩
        · clear hx24; rintro e st' ⟨rfl, hl25⟩; refine Au ?_; refine Aj ?_; refine Aa ?_; refine Af hl25 ?_; refine Jt ⟨[(2, (Iw a_p2)), (3, (.ptr 3 0)), (7, (.vsl 14 x24.length)), (8, (.int .i64 (Bi (i3 + (1 : Int)))))], [(3, .row 26 (Ll a_g)), (14, .arr 1 4 x24.length (fun i => eB (x24.getD i false)))], []⟩ hq ?_; obtain rfl := OI h; exact ⟨rfl, Le.refl _ _⟩
      · replace h := Ar hb h; clear hb; refine A3 ?_; refine Az ?_; obtain rfl := OI h; exact ⟨(by intro hh; cases hh), rfl, Ed [7] [14] hq⟩
    · clear hx26; rintro e st' ⟨rfl, hl27⟩; refine Au ?_; refine Aa ?_; refine Af hl27 ?_; refine Aq ⟨[(6, (.vsl 14 x26.length))], [(14, .arr 1 4 x26.length (fun i => eB (x26.getD i false)))], []⟩ hq ?_; refine Af (Le.trans (Es (nm := 14) (sz := 1) (n := x26.length) (e := 4) (f := (fun i => eB (x26.getD i false))) (g := (fun i => eB (x26.getD i false))) rfl ⟨rfl, trivial⟩ (fun _ _ => rfl) (by rw [hΓ]; rfl)) (Ba (st' := ⟨[(6, (AV.list 1 eB false x26 (.own 14)))], [(14, .tok 1 4 x26.length)], []⟩) (by kernel_rfl))) ?_; refine Ao ?_; obtain rfl := OI h; exact ⟨.inl rfl, [(14, 20000)], by kernel_rfl⟩
def Ce (a_g : TGraph) : (Int × List (List (Int)) × List (List (Int))) → Option (LR (Int × List (List (Int)) × List (List (Int))) (List (List (Int)) × List (List (Int)))) :=
  fun ((i5, l6, l7) : (Int × List (List (Int)) × List (List (Int)))) => (bif (decide ((i5 : Int) < (a_g.Succ.length : Int))) then (Option.bind (α := (List (List (Int)) × List (List (Int)))) (Bw (A4 i5 a_g.Succ.length) (bif ((((a_g.Succ.getD (i5).toNat []).length : Int) : Int) == (0 : Int)) then ((C7 (⟨l6, l7⟩ : TGraph) i5).bind fun x13 => (some ((x13.Succ, x13.Pred)))) else (some ((l6, l7))))) (fun x14 => (match x14 with | (l10, l11) => (some (.next ((Bi (i5 + (1 : Int))), l10, l11)))))) else (some (.done (l6, l7))))
def Ci (a_g : TGraph) : (Int × List (List (Int)) × List (List (Int))) → Option (LR (Int × List (List (Int)) × List (List (Int))) (List (List (Int)) × List (List (Int)))) :=
  fun ((i18, l19, l20) : (Int × List (List (Int)) × List (List (Int)))) => (bif (decide ((i18 : Int) < (a_g.Succ.length : Int))) then (Option.bind (α := (List (List (Int)) × List (List (Int)))) ((Bp (⟨l19, l20⟩ : TGraph) i18 (-1 : Int)).bind fun x25 => (Bw (A4 (a_g.Succ.length : Int) x25.length) (bif (!(x25.getD ((a_g.Succ.length : Int)).toNat false)) then ((C7 (⟨l19, l20⟩ : TGraph) i18).bind fun x27 => (some ((x27.Succ, x27.Pred)))) else (some ((l19, l20)))))) (fun x28 => (match x28 with | (l23, l24) => (some (.next ((Bi (i18 + (1 : Int))), l23, l24)))))) else (some (.done (l19, l20))))
def Wu (a_g : TGraph) := (a_g.Succ.length : Int)
def Q327 := ([] : List (List (Int)))
def Ww : AV := (AV.list 1 eLI64 [] Q327 .exact)
def Qt (a_g : TGraph) : AV := (.int .i64 (Wu a_g))
def Q328 := ([([] : List Int)] : List (List (Int)))
def Q330 (l6 : List (List (Int))) (l7 : List (List (Int))) : List AV := [(AV.list 1 eLI64 [] l6 .none), (AV.list 1 eLI64 [] l7 .none)]
def Q329 (l19 : List (List (Int))) (l20 : List (List (Int))) : List AV := [(AV.list 1 eLI64 [] l19 .none), (AV.list 1 eLI64 [] l20 .none)]
def Kf : List AV := [(.slice 0 0 (fun _ => []) .exact), (.slice 0 0 (fun _ => []) .exact)]
def Q333 (a_g : TGraph) (i18 : Int) : List (Nat × AV) := [(2, (.ptr 2 0)), (4, (Qt a_g)), (5, (.ptr 5 0)), (8, (.int .i64 i18))]
def Tb (a_g : TGraph) : List AV := [(AV.list 1 eLI64 [] a_g.Succ .none), (AV.list 1 eLI64 [] a_g.Pred .none)]
def Q331 (a_g : TGraph) (i5 : Int) : List (Nat × AV) := [(1, (.ptr 1 0)), (2, (.ptr 2 0)), (4, (Qt a_g)), (5, (.ptr 5 0)), (7, (.int .i64 i5))]
def E4 (a_g : TGraph) : Option (TGraph × Int) :=
  ((Ej a_g).bind fun x1 => (bif (bif (!x1) then true else (decide (((64 : Int) : Int) ≤ (a_g.Succ.length : Int)))) then (some ((⟨([] : List (List (Int))), ([] : List (List (Int)))⟩ : TGraph), (5 : Int))) else (Bw (([] : List (List (Int))).length + a_g.Succ.length ≤ room) (Bw ((([] : List (List (Int))) ++ a_g.Succ).length + ([([] : List Int)] : List (List (Int))).length ≤ room) ((C4 ((([] : List (List (Int))) ++ a_g.Succ) ++ ([([] : List Int)] : List (List (Int))))).bind fun x4 => ((Aw (S := (Int × List (List (Int)) × List (List (Int)))) (X := (List (List (Int)) × List (List (Int)))) (Ce a_g) ((0 : Int), x4.1.Succ, x4.1.Pred)).bind (fun x16 => (match x16 with | (l8, l9) => ((Aw (S := (Int × List (List (Int)) × List (List (Int)))) (X := (List (List (Int)) × List (List (Int)))) (Ci a_g) ((0 : Int), l8, l9)).bind (fun x30 => (match x30 with | (l21, l22) => (some ((⟨l21, l22⟩ : TGraph), (0 : Int))))))))))))))
theorem M6 (a_g : TGraph) (r : (TGraph × Int)) (h : E4 a_g = some r) : Spec Try.prog 25 [(.agg (At a_g))] [] (.tuple [(.agg (At r.1)), (.int .i64 r.2)]) [] := by
  refine Ap (fn := Try.f25) Try.func25 rfl rfl (by kernel_rfl) (fun Γ hn hΓ => ?_); have hq : RgQ Try.prog Γ 62 [] := ⟨hn, mix, hΓ⟩; unfold E4 at h; refine Aq ⟨[(1, (.ptr 1 0)), (2, (.ptr 2 0))], [(1, .row 26 (Tb a_g)), (2, .row 26 Kf)], []⟩ hq ?_; refine Aq ⟨[(1, (.ptr 1 0)), (2, (.ptr 2 0)), (4, (Qt a_g))], [(1, .row 26 (Tb a_g)), (2, .row 26 Kf)], []⟩ hq ?_; refine Ac ?_; obtain ⟨x1, hx1, h⟩ := bind_some h; refine B5 [⟨[], [], (.bool x1), [], []⟩] [] ⟨[(1, (.ptr 1 0)), (2, (.ptr 2 0)), (4, (Qt a_g)), (18, (.bool (bif (!x1) then true else (decide (((64 : Int) : Int) ≤ (Wu a_g))))))], [(1, .row 26 (Tb a_g)), (2, .row 26 Kf)], []⟩ [(Spec Try.prog 28 [(.agg (At a_g))] [] (.bool x1) []), (((!x1) == false) = true → ((!x1) == false) = true), ((!x1) = false → ((!x1) == false) = true)] hq ⟨(Je a_g x1 hx1), (fun hg => hg), gF, trivial⟩ ?_; refine Ai (bif (!x1) then true else (decide (((64 : Int) : Int) ≤ (Wu a_g)))) (by kernel_rfl) (fun hb => ?_) (fun hb => ?_)
  · replace h := Ak hb h; clear hb; refine B5 [] [(19, (.agg [Ww, Ww]))] ⟨[(2, (.ptr 2 0)), (3, (.int .i64 (5 : Int)))], [(2, .row 26 [Ww, Ww])], []⟩ [(AVle (.agg Kf) (.agg [Ww, Ww]))] hq ⟨(AVle.agg (.cons Cs (.cons Cs .nil))), trivial⟩ ?_; refine Af (st' := ⟨[(2, (.ptr 2 0)), (3, (.int .i64 (5 : Int)))], [(2, .row 26 [(AV.list 1 eLI64 [] Q327 .none), (AV.list 1 eLI64 [] Q327 .none)])], []⟩) (Le.trans (Ed (st' := ⟨[(2, (.ptr 2 0)), (3, (.int .i64 (5 : Int)))], [(2, .row 26 [Ww, Ww])], []⟩) [2, 3] [2] hq) (B6 (.cons (AVle.refl _) (.cons (AVle.refl _) .nil)) (.row (.cons AVle.untag (.cons AVle.untag .nil)) .nil))) ?_; refine Ao ?_; refine Ay ?_; obtain rfl := OI h; exact ⟨.inl rfl, [], by kernel_rfl⟩
  · replace h := Ar hb h; clear hb; refine Ag ?_; refine Aa ?_; obtain ⟨hc2, h⟩ := Ab h; obtain ⟨hc3, h⟩ := Ab h; obtain ⟨x4, hx4, h⟩ := bind_some h; refine B5 [⟨[], [], (.tuple [(.agg (At x4.1)), (.int .i64 x4.2)]), [], []⟩] [(21, Ww), (24, (AV.list 1 eLI64 [] (Q327 ++ a_g.Succ) (.own 24))), (25, (AV.list 1 Ad (0 : Int) ([] : List Int) .exact)), (26, (AV.list 1 eLI64 [] Q328 .exact)), (27, (AV.list 1 eLI64 [] ((Q327 ++ a_g.Succ) ++ Q328) (.own 24)))] ⟨[(1, (.ptr 1 0)), (2, (.ptr 2 0)), (4, (Qt a_g)), (5, (.ptr 5 0))], [(1, .row 26 (Tb a_g)), (2, .row 26 Kf), (5, .row 26 [(AV.list 1 eLI64 [] x4.1.Succ .none), (AV.list 1 eLI64 [] x4.1.Pred .none)])], []⟩ [(AVle (.slice 1 0 (fun i => ([] : List (List AV)).getD i []) .exact) Ww), (Q327.length + a_g.Succ.length ≤ room), (31 = Lw → Q327.length = 0 ∨ 0 < a_g.Succ.length), (AVle (.slice 1 (Q327.length + a_g.Succ.length) (Ff Q327.length (fun i => eLI64 (Q327.getD i [])) (fun i => eLI64 (a_g.Succ.getD i []))) (.own 24)) (AV.list 1 eLI64 [] (Q327 ++ a_g.Succ) (.own 24))), (Q327.length + a_g.Succ.length = (Q327 ++ a_g.Succ).length), (AVle (.slice 1 0 (fun i => ([] : List (List AV)).getD i []) .exact) (AV.list 1 Ad (0 : Int) ([] : List Int) .exact)), (AVle (.slice 1 1 (fun i => ([[(AV.list 1 Ad (0 : Int) ([] : List Int) .none)]] : List (List AV)).getD i []) .exact) (AV.list 1 eLI64 [] Q328 .exact)), ((Q327 ++ a_g.Succ).length = (Q327 ++ a_g.Succ).length), ((Q327 ++ a_g.Succ).length + Q328.length ≤ room), (AVle (.slice 1 ((Q327 ++ a_g.Succ).length + Q328.length) (Ff (Q327 ++ a_g.Succ).length (fun i => eLI64 ((Q327 ++ a_g.Succ).getD i [])) (fun i => eLI64 (Q328.getD i []))) (.own 24)) (AV.list 1 eLI64 [] ((Q327 ++ a_g.Succ) ++ Q328) (.own 24))), ((Q327 ++ a_g.Succ).length + Q328.length = ((Q327 ++ a_g.Succ) ++ Q328).length), (Spec Try.prog 44 [(AV.list 1 eLI64 [] ((Q327 ++ a_g.Succ) ++ Q328) .none)] [] (.tuple [(.agg (At x4.1)), (.int .i64 x4.2)]) [])] hq ⟨Em rfl (fun i hi => absurd hi (Nat.not_lt_zero i)), hc2, (fun h_ => absurd h_ (by decide)), Ic, (Du _ _), Em rfl (fun i hi => absurd hi (Nat.not_lt_zero i)), (Em rfl (fun i hi => Ea (e := eLI64) (d := []) Q328 i hi)), rfl, hc3, Ic, (Du _ _), (Gs ((Q327 ++ a_g.Succ) ++ Q328) x4 hx4), trivial⟩ ?_; refine Ac ?_; refine Aq ⟨[(1, (.ptr 1 0)), (2, (.ptr 2 0)), (4, (Qt a_g)), (5, (.ptr 5 0)), (7, (.int .i64 (0 : Int)))], [(1, .row 26 (Tb a_g)), (2, .row 26 Kf), (5, .row 26 [(AV.list 1 eLI64 [] x4.1.Succ .none), (AV.list 1 eLI64 [] x4.1.Pred .none)])], []⟩ hq ?_; refine Ah ?_; refine Af (st' := (fun ((i5, l6, l7) : (Int × List (List (Int)) × List (List (Int)))) => (⟨(Q331 a_g i5), [(1, .row 26 (Tb a_g)), (2, .row 26 Kf), (5, .row 26 (Q330 l6 l7))], []⟩ : St)) ((0 : Int), x4.1.Succ, x4.1.Pred)) (Le.refl _ _) ?_; obtain ⟨x16, hx16, h⟩ := bind_some h; refine A2 (fun ((i5, l6, l7) : (Int × List (List (Int)) × List (List (Int)))) => (⟨(Q331 a_g i5), [(1, .row 26 (Tb a_g)), (2, .row 26 Kf), (5, .row 26 (Q330 l6 l7))], []⟩ : St)) _ (fun ((l8, l9) : (List (List (Int)) × List (List (Int)))) (e : Exit) (st : St) => e = (.exit 0) ∧ Le Γ st (⟨[(2, (.ptr 2 0)), (4, (Qt a_g)), (5, (.ptr 5 0))], [(2, .row 26 Kf), (5, .row 26 [(AV.list 1 eLI64 [] l8 .none), (AV.list 1 eLI64 [] l9 .none)])], []⟩ : St)) ?_ hx16 ?_
    · rintro ⟨i5, l6, l7⟩ y h; unfold Ce at h; refine Ac ?_; refine Aq ⟨[(1, (.ptr 1 0)), (2, (.ptr 2 0)), (4, (Qt a_g)), (5, (.ptr 5 0)), (7, (.int .i64 i5)), (33, (.bool (decide ((i5 : Int) < (Wu a_g)))))], [(1, .row 26 (Tb a_g)), (2, .row 26 Kf), (5, .row 26 (Q330 l6 l7))], []⟩ hq ?_; refine Ai (decide ((i5 : Int) < (Wu a_g))) (by kernel_rfl) (fun hb => ?_) (fun hb => ?_)
      · replace h := Ak hb h; clear hb; refine Ag ?_; refine Aa ?_; refine Ac ?_; obtain ⟨x14, hx14, h⟩ := bind_some h; refine E7 (fun ((l10, l11) : (List (List (Int)) × List (List (Int)))) (e : Exit) (st : St) => e = .normal ∧ Le Γ st (⟨(Q331 a_g i5), [(1, .row 26 (Tb a_g)), (2, .row 26 Kf), (5, .row 26 [(AV.list 1 eLI64 [] l10 .none), (AV.list 1 eLI64 [] l11 .none)])], []⟩ : St)) hx14 ?_ ?_
        · clear h hx14; intro y h; refine Ah ?_; obtain ⟨hc12, h⟩ := Ab h; refine B5 [] [] ⟨[(1, (.ptr 1 0)), (2, (.ptr 2 0)), (4, (Qt a_g)), (5, (.ptr 5 0)), (7, (.int .i64 i5)), (42, (.bool ((((a_g.Succ.getD (i5).toNat []).length : Int) : Int) == (0 : Int))))], [(1, .row 26 (Tb a_g)), (2, .row 26 Kf), (5, .row 26 (Q330 l6 l7))], []⟩ [(A4 i5 a_g.Succ.length)] hq ⟨hc12, trivial⟩ ?_; refine Ai ((((a_g.Succ.getD (i5).toNat []).length : Int) : Int) == (0 : Int)) (by kernel_rfl) (fun hb => ?_) (fun hb => ?_)
          · replace h := Ak hb h; clear hb; obtain ⟨x13, hx13, h⟩ := bind_some h; refine rg [⟨[], [], (.agg (At x13)), [], []⟩] [] ⟨(Q331 a_g i5), [(1, .row 26 (Tb a_g)), (2, .row 26 Kf), (5, .row 26 [(AV.list 1 eLI64 [] x13.Succ .none), (AV.list 1 eLI64 [] x13.Pred .none)])], []⟩ [(Spec Try.prog 45 [(.agg (Q330 l6 l7)), (.int .i64 i5)] [] (.agg (At x13)) [])] hq ⟨(Ih (⟨l6, l7⟩ : TGraph) i5 x13 hx13), trivial⟩ ?_; refine Aj ?_; obtain rfl := OI h; exact ⟨rfl, Le.refl _ _⟩
          · replace h := Ar hb h; clear hb; refine Ag ?_; refine Aj ?_; obtain rfl := OI h; exact ⟨rfl, Ed [1, 2, 4, 5, 7] [1, 2, 5] hq⟩
        · clear hx14; rcases x14 with ⟨l10, l11⟩; rintro e st' ⟨rfl, hl15⟩; refine Aa ?_; refine Af hl15 ?_; refine Jt ⟨[(1, (.ptr 1 0)), (2, (.ptr 2 0)), (4, (Qt a_g)), (5, (.ptr 5 0)), (7, (.int .i64 (Bi (i5 + (1 : Int)))))], [(1, .row 26 (Tb a_g)), (2, .row 26 Kf), (5, .row 26 [(AV.list 1 eLI64 [] l10 .none), (AV.list 1 eLI64 [] l11 .none)])], []⟩ hq ?_; obtain rfl := OI h; exact ⟨rfl, Le.refl _ _⟩
      · replace h := Ar hb h; clear hb; refine A3 ?_; refine Az ?_; obtain rfl := OI h; exact ⟨(by intro hh; cases hh), rfl, Ed [2, 4, 5] [2, 5] hq⟩
    · clear hx16; rcases x16 with ⟨l8, l9⟩; rintro e st' ⟨rfl, hl17⟩; refine Au ?_; refine Aa ?_; refine Af hl17 ?_; refine Ac ?_; refine Aq ⟨[(2, (.ptr 2 0)), (4, (Qt a_g)), (5, (.ptr 5 0)), (8, (.int .i64 (0 : Int)))], [(2, .row 26 Kf), (5, .row 26 [(AV.list 1 eLI64 [] l8 .none), (AV.list 1 eLI64 [] l9 .none)])], []⟩ hq ?_; refine Ah ?_; refine Af (st' := (fun ((i18, l19, l20) : (Int × List (List (Int)) × List (List (Int)))) => (⟨(Q333 a_g i18), [(2, .row 26 Kf), (5, .row 26 (Q329 l19 l20))], []⟩ : St)) ((0 : Int), l8, l9)) (Le.refl _ _) ?_; obtain ⟨x30, hx30, h⟩ := bind_some h; refine A2 (fun ((i18, l19, l20) : (Int × List (List (Int)) × List (List (Int)))) => (⟨(Q333 a_g i18), [(2, .row 26 Kf), (5, .row 26 (Q329 l19 l20))], []⟩ : St)) _ (fun ((l21, l22) : (List (List (Int)) × List (List (Int)))) (e : Exit) (st : St) => e = (.exit 2) ∧ Le Γ st (⟨[(2, (.ptr 2 0)), (5, (.ptr 5 0))], [(2, .row 26 Kf), (5, .row 26 [(AV.list 1 eLI64 [] l21 .none), (AV.list 1 eLI64 [] l22 .none)])], []⟩ : St)) ?_ hx30 ?_
      · rintro ⟨i18, l19, l20⟩ y h; unfold Ci at h; refine Ac ?_; refine Aq ⟨[(2, (.ptr 2 0)), (4, (Qt a_g)), (5, (.ptr 5 0)), (8, (.int .i64 i18)), (48, (.bool (decide ((i18 : Int) < (Wu a_g)))))], [(2, .row 26 Kf), (5, .row 26 (Q329 l19 l20))], []⟩ hq ?_; refine Ai (decide ((i18 : Int) < (Wu a_g))) (by kernel_rfl) (fun hb => ?_) (fun hb => ?_)
        · replace h := Ak hb h; clear hb; refine Ag ?_; refine Aa ?_; refine Ac ?_; obtain ⟨x28, hx28, h⟩ := bind_some h; refine E7 (fun ((l23, l24) : (List (List (Int)) × List (List (Int)))) (e : Exit) (st : St) => e = .normal ∧ Le Γ st (⟨(Q333 a_g i18), [(2, .row 26 Kf), (5, .row 26 [(AV.list 1 eLI64 [] l23 .none), (AV.list 1 eLI64 [] l24 .none)])], []⟩ : St)) hx28 ?_ ?_
          · clear h hx28; intro y h; refine Ah ?_; obtain ⟨x25, hx25, h⟩ := bind_some h; obtain ⟨hc26, h⟩ := Ab h; refine B5 [⟨[], [(20000, 53)], (AV.list 1 eB false x25 (.own 20000)), [(20000, .tok 1 4 x25.length)], []⟩] [] ⟨[(2, (.ptr 2 0)), (4, (Qt a_g)), (5, (.ptr 5 0)), (8, (.int .i64 i18)), (57, (.bool (!(x25.getD ((Wu a_g)).toNat false))))], [(2, .row 26 Kf), (5, .row 26 (Q329 l19 l20))], []⟩ [(Spec Try.prog 17 [(.agg (Q329 l19 l20)), (.int .i64 i18), (.int .i64 (-1 : Int))] [] (AV.list 1 eB false x25 (.own 20000)) [(20000, .tok 1 4 x25.length)]), (A4 (Wu a_g) x25.length)] hq ⟨(Eg (⟨l19, l20⟩ : TGraph) i18 (-1 : Int) x25 hx25), hc26, trivial⟩ ?_; refine Ai (!(x25.getD ((Wu a_g)).toNat false)) (by kernel_rfl) (fun hb => ?_) (fun hb => ?_)
            · replace h := Ak hb h; clear hb; obtain ⟨x27, hx27, h⟩ := bind_some h; refine rg [⟨[], [], (.agg (At x27)), [], []⟩] [] ⟨(Q333 a_g i18), [(2, .row 26 Kf), (5, .row 26 [(AV.list 1 eLI64 [] x27.Succ .none), (AV.list 1 eLI64 [] x27.Pred .none)])], []⟩ [(Spec Try.prog 45 [(.agg (Q329 l19 l20)), (.int .i64 i18)] [] (.agg (At x27)) [])] hq ⟨(Ih (⟨l19, l20⟩ : TGraph) i18 x27 hx27), trivial⟩ ?_; refine Aj ?_; obtain rfl := OI h; exact ⟨rfl, Le.refl _ _⟩
            · replace h := Ar hb h; clear hb; refine Ag ?_; refine Aj ?_; obtain rfl := OI h; exact ⟨rfl, Ed [2, 4, 5, 8] [2, 5] hq⟩
          · clear hx28; rcases x28 with ⟨l23, l24⟩; rintro e st' ⟨rfl, hl29⟩; refine Aa ?_; refine Af hl29 ?_; refine Jt ⟨[(2, (.ptr 2 0)), (4, (Qt a_g)), (5, (.ptr 5 0)), (8, (.int .i64 (Bi (i18 + (1 : Int)))))], [(2, .row 26 Kf), (5, .row 26 [(AV.list 1 eLI64 [] l23 .none), (AV.list 1 eLI64 [] l24 .none)])], []⟩ hq ?_; obtain rfl := OI h; exact ⟨rfl, Le.refl _ _⟩
        · replace h := Ar hb h; clear hb; refine A3 ?_; refine Az ?_; obtain rfl := OI h; exact ⟨(by intro hh; cases hh), rfl, Ed [2, 5] [2, 5] hq⟩
      · clear hx30; rcases x30 with ⟨l21, l22⟩; rintro e st' ⟨rfl, hl31⟩; refine Au ?_; refine Aa ?_; refine Af hl31 ?_; refine Aq ⟨[(2, (.ptr 2 0)), (3, (.int .i64 (0 : Int)))], [(2, .row 26 [(AV.list 1 eLI64 [] l21 .none), (AV.list 1 eLI64 [] l22 .none)])], []⟩ hq ?_; refine Ao ?_; obtain rfl := OI h; exact ⟨.inl rfl, [], by kernel_rfl⟩
def Cn (a_g : TGraph) (x1 : (TGraph × Int)) (i3 : Int) (l4 : List (List (Bool))) : (Int × List (Bool)) → Option (LR (Int × List (Bool)) (List (Bool))) :=
  fun ((i8, l9) : (Int × List (Bool))) => (bif (decide ((i8 : Int) < (a_g.Succ.length : Int))) then (Bw (A4 i3 l4.length) ((Bp x1.1 i8 i3).bind fun x12 => (Bw (A4 (a_g.Succ.length : Int) x12.length) (Bw (A4 i8 l9.length) (some (.next ((Bi (i8 + (1 : Int))), (l9.set (i8).toNat (!(x12.getD ((a_g.Succ.length : Int)).toNat false)))))))))) else (some (.done l9)))
def Cr (a_g : TGraph) (x1 : (TGraph × Int)) : (Int × List (List (Bool))) → Option (LR (Int × List (List (Bool))) (List (List (Bool)))) :=
  fun ((i3, l4) : (Int × List (List (Bool)))) => (bif (decide ((i3 : Int) < (a_g.Succ.length : Int))) then (Bw (0 ≤ (a_g.Succ.length : Int) ∧ (a_g.Succ.length : Int) ≤ (a_g.Succ.length : Int) ∧ (a_g.Succ.length : Int) ≤ (room : Int)) (Bw (A4 i3 l4.length) ((Aw (S := (Int × List (Bool))) (X := List (Bool)) (Cn a_g x1 i3 l4) ((0 : Int), (List.replicate ((a_g.Succ.length : Int)).toNat false))).bind (fun x15 => ((some (.next ((Bi (i3 + (1 : Int))), (l4.set (i3).toNat x15))))))))) else (some (.done l4)))
def B7 (a_g : TGraph) (x1 : (TGraph × Int)) (l5 : List (List (Bool))) (i20 : Int) (i23 : Int) : (List (TDep) × Int) → Option (LR (List (TDep) × Int) (List (TDep))) :=
  fun ((l25, i26) : (List (TDep) × Int)) => (Bw (((decide ((i26 : Int) < (a_g.Succ.length : Int))) == true) = true → (A4 i23 x1.1.Succ.length)) (bif (bif (decide ((i26 : Int) < (a_g.Succ.length : Int))) then (decide (((1 : Int) : Int) < ((x1.1.Succ.getD (i23).toNat []).length : Int))) else false) then (Option.bind (α := List (TDep)) (Bw (A4 i23 a_g.Succ.length) ((Dc (a_g.Succ.getD (i23).toNat []) i26).bind fun x31 => (Bw ((x31 == true) = true → (A4 i20 l5.length)) (Bw ((x31 == true) = true → (A4 i26 (l5.getD (i20).toNat []).length)) (Bw ((((bif x31 then ((l5.getD (i20).toNat []).getD (i26).toNat false) else false) == true) && (((i20 : Int) == i23) == false)) = true → (A4 i20 l5.length)) (Bw ((((bif x31 then ((l5.getD (i20).toNat []).getD (i26).toNat false) else false) == true) && (((i20 : Int) == i23) == false)) = true → (A4 i23 (l5.getD (i20).toNat []).length)) (bif (bif (bif x31 then ((l5.getD (i20).toNat []).getD (i26).toNat false) else false) then (bif ((i20 : Int) == i23) then true else (!((l5.getD (i20).toNat []).getD (i23).toNat false))) else false) then (Bw (l25.length + ([(⟨i20, i23, i26⟩ : TDep)] : List (TDep)).length ≤ room) (some ((l25 ++ ([(⟨i20, i23, i26⟩ : TDep)] : List (TDep)))))) else (some (l25))))))))) (fun x37 => ((some (.next (x37, (Bi (i26 + (1 : Int))))))))) else (some (.done l25))))
def Co (a_g : TGraph) (x1 : (TGraph × Int)) (l5 : List (List (Bool))) (i20 : Int) : (List (TDep) × Int) → Option (LR (List (TDep) × Int) (List (TDep))) :=
  fun ((l22, i23) : (List (TDep) × Int)) => (bif (decide ((i23 : Int) < (a_g.Succ.length : Int))) then ((Aw (S := (List (TDep) × Int)) (X := List (TDep)) (B7 a_g x1 l5 i20 i23) (l22, (0 : Int))).bind (fun x39 => ((some (.next (x39, (Bi (i23 + (1 : Int))))))))) else (some (.done l22)))
def Cq (a_g : TGraph) (x1 : (TGraph × Int)) (l5 : List (List (Bool))) : (List (TDep) × Int) → Option (LR (List (TDep) × Int) (List (TDep))) :=
  fun ((l19, i20) : (List (TDep) × Int)) => (bif (decide ((i20 : Int) < (a_g.Succ.length : Int))) then ((Aw (S := (List (TDep) × Int)) (X := List (TDep)) (Co a_g x1 l5 i20) (l19, (0 : Int))).bind (fun x41 => ((some (.next (x41, (Bi (i20 + (1 : Int))))))))) else (some (.done l19)))
def Hq := (default : TDep)
def Q345 (l4 : List (List (Bool))) : AV := (.vsl 24 l4.length)
def L2 (x17 : List (List (Bool))) : AV := (.vsl 24 x17.length)
def Gp (a_g : TGraph) := (a_g.Succ.length : Int)
def G6 (a_g : TGraph) : AV := (.int .i64 (Gp a_g))
def M2 (l4 : List (List (Bool))) := (fun i => eLB (l4.getD i []))
def Qv (x17 : List (List (Bool))) := (fun i => eLB (x17.getD i []))
def Q342 (i20 : Int) (i23 : Int) := (((i20 : Int) == i23) == false)
def Va := (fun n_ => Cl n_ [1, 4, 24, 33])
def V9 (a_g : TGraph) := (List.replicate ((Gp a_g)).toNat false)
def Te (i20 : Int) (i23 : Int) (i26 : Int) := ([(⟨i20, i23, i26⟩ : TDep)] : List (TDep))
def U0 (x31 : Bool) (x17 : List (List (Bool))) (i20 : Int) (i26 : Int) := ((bif x31 then ((x17.getD (i20).toNat []).getD (i26).toNat false) else false) == true)
def M8 (x31 : Bool) (x17 : List (List (Bool))) (i20 : Int) (i26 : Int) (i23 : Int) := ((U0 x31 x17 i20 i26) && (Q342 i20 i23))
def Qr (i26 : Int) (a_g : TGraph) := ((decide ((i26 : Int) < (Gp a_g))) == true)
def Q364 (a_g : TGraph) := (List.replicate ((Gp a_g)).toNat ([] : List (Bool)))
def Iv : AV := (AV.list 3 Ax Hq ([] : List TDep) .exact)
def Y2 (l9 : List (Bool)) (i8 : Int) (x12 : List (Bool)) (a_g : TGraph) := (l9.set (i8).toNat (!(x12.getD ((Gp a_g)).toNat false)))
def Fi (a_g : TGraph) : List AV := [(AV.list 1 eLI64 [] a_g.Succ .none), (AV.list 1 eLI64 [] a_g.Pred .none)]
def Fq (x1 : (TGraph × Int)) : List AV := [(AV.list 1 eLI64 [] x1.1.Succ .none), (AV.list 1 eLI64 [] x1.1.Pred .none)]
def Q367 (l4 : List (List (Bool))) (i3 : Int) (l9 : List (Bool)) := (fun i_ => AV.eraseAll Va ((D0 (M2 l4) (i3).toNat 0 [(.vsl 33 l9.length)]) i_))
def Y3 (a_g : TGraph) (l4 : List (List (Bool))) (i3 : Int) : List (Nat × AV) := [(1, (.ptr 1 0)), (3, Iv), (4, (.ptr 4 0)), (6, (G6 a_g)), (7, (Q345 l4)), (8, (.int .i64 i3))]
def Q358 (a_g : TGraph) (x1 : (TGraph × Int)) (x17 : List (List (Bool))) (l19 : List (TDep)) : List (Nat × Own) := [(1, .row 26 (Fi a_g)), (4, .row 26 (Fq x1)), (24, .arr 1 40 x17.length (Qv x17)), (5003, .tok 3 37 l19.length)]
def Q362 (a_g : TGraph) (x1 : (TGraph × Int)) (x17 : List (List (Bool))) (l22 : List (TDep)) : List (Nat × Own) := [(1, .row 26 (Fi a_g)), (4, .row 26 (Fq x1)), (24, .arr 1 40 x17.length (Qv x17)), (5003, .tok 3 37 l22.length)]
def Q369 := (⟨[(2, (AV.list 3 Ax Hq ([] : List TDep) (.own 6002)))], [(6002, .tok 3 37 (([] : List TDep).length))], []⟩ : St)
def Q356 (a_g : TGraph) (l4 : List (List (Bool))) (i3 : Int) : List (Nat × AV) := [(1, (.ptr 1 0)), (3, Iv), (4, (.ptr 4 0)), (6, (G6 a_g)), (7, (Q345 l4)), (8, (.int .i64 (Bi (i3 + (1 : Int)))))]
def Q349 (a_g : TGraph) (l4 : List (List (Bool))) (i3 : Int) (i8 : Int) : List (Nat × AV) := [(1, (.ptr 1 0)), (3, Iv), (4, (.ptr 4 0)), (6, (G6 a_g)), (7, (Q345 l4)), (8, (.int .i64 i3)), (9, (.int .i64 i8))]
def Q355 (a_g : TGraph) (l4 : List (List (Bool))) (i3 : Int) : List (Nat × AV) := [(1, (.ptr 1 0)), (3, Iv), (4, (.ptr 4 0)), (6, (G6 a_g)), (7, (Q345 l4)), (8, (.int .i64 i3)), (9, (.int .i64 (0 : Int)))]
def Q354 (a_g : TGraph) (l4 : List (List (Bool))) (i3 : Int) (i8 : Int) : List (Nat × AV) := [(1, (.ptr 1 0)), (3, Iv), (4, (.ptr 4 0)), (6, (G6 a_g)), (7, (Q345 l4)), (8, (.int .i64 i3)), (9, (.int .i64 (Bi (i8 + (1 : Int)))))]
def Q352 (a_g : TGraph) (x1 : (TGraph × Int)) (l4 : List (List (Bool))) (i3 : Int) (l9 : List (Bool)) : List (Nat × Own) := [(1, .row 26 (Fi a_g)), (4, .row 26 (Fq x1)), (24, .arr 1 40 l4.length (D0 (M2 l4) (i3).toNat 0 [(.vsl 33 l9.length)])), (33, .arr 1 4 l9.length (fun i => eB (l9.getD i false)))]
def Q368 (a_g : TGraph) (x17 : List (List (Bool))) (x1 : (TGraph × Int)) := (⟨[(1, (.ptr 1 0)), (3, Iv), (4, (.ptr 4 0)), (6, (G6 a_g)), (7, (L2 x17)), (10, (.int .i64 (0 : Int)))], [(1, .row 26 (Fi a_g)), (4, .row 26 (Fq x1)), (24, .arr 1 40 x17.length (Qv x17))], []⟩ : St)
def Q360 (a_g : TGraph) (x1 : (TGraph × Int)) (l4 : List (List (Bool))) (i3 : Int) : List (Nat × Own) := [(1, .row 26 (Fi a_g)), (4, .row 26 (Fq x1)), (24, .arr 1 40 l4.length (D0 (M2 l4) (i3).toNat 0 [(.vsl 33 (V9 a_g).length)])), (33, .arr 1 4 ((V9 a_g).length) (fun i => eB ((V9 a_g).getD i false)))]
def Q359 (a_g : TGraph) (x1 : (TGraph × Int)) (l4 : List (List (Bool))) (i3 : Int) (l9 : List (Bool)) (i8 : Int) (x12 : List (Bool)) : List (Nat × Own) := [(1, .row 26 (Fi a_g)), (4, .row 26 (Fq x1)), (24, .arr 1 40 l4.length (D0 (M2 l4) (i3).toNat 0 [(.vsl 33 (Y2 l9 i8 x12 a_g).length)])), (33, .arr 1 4 ((Y2 l9 i8 x12 a_g).length) (fun i => eB ((Y2 l9 i8 x12 a_g).getD i false)))]
def Q365 (a_g : TGraph) (l4 : List (List (Bool))) (i3 : Int) (x1 : (TGraph × Int)) := (⟨(Q355 a_g l4 i3), [(1, .row 26 (Fi a_g)), (4, .row 26 (Fq x1)), (24, .arr 1 40 l4.length (fun i_ => AV.eraseAll Va ((D0 (M2 l4) (i3).toNat 0 [(.vsl 33 (V9 a_g).length)]) i_))), (33, .arr 1 4 ((V9 a_g).length) (fun i => eB ((V9 a_g).getD i false)))], []⟩ : St)
def Q363 (a_g : TGraph) (l4 : List (List (Bool))) (i3 : Int) (i8 : Int) (x1 : (TGraph × Int)) (l9 : List (Bool)) (x12 : List (Bool)) := (⟨(Q354 a_g l4 i3 i8), [(1, .row 26 (Fi a_g)), (4, .row 26 (Fq x1)), (24, .arr 1 40 l4.length (fun i_ => AV.eraseAll Va ((D0 (M2 l4) (i3).toNat 0 [(.vsl 33 (Y2 l9 i8 x12 a_g).length)]) i_))), (33, .arr 1 4 ((Y2 l9 i8 x12 a_g).length) (fun i => eB ((Y2 l9 i8 x12 a_g).getD i false)))], []⟩ : St)
def Q357 (l25 : List (TDep)) (a_g : TGraph) (x17 : List (List (Bool))) (i20 : Int) (i23 : Int) (i26 : Int) (x1 : (TGraph × Int)) := (⟨[(1, (.ptr 1 0)), (3, (AV.list 3 Ax Hq l25 (.own 5003))), (4, (.ptr 4 0)), (6, (G6 a_g)), (7, (L2 x17)), (10, (.int .i64 i20)), (11, (.int .i64 i23)), (12, (.int .i64 i26))], [(1, .row 26 (Fi a_g)), (4, .row 26 (Fq x1)), (24, .arr 1 40 x17.length (Qv x17)), (5003, .tok 3 37 l25.length)], []⟩ : St)
def Ek (a_g : TGraph) : Option (List (TDep)) :=
  ((E4 a_g).bind fun x1 => (bif ((x1.2 : Int) != (0 : Int)) then (some ([] : List TDep)) else (Bw (0 ≤ (a_g.Succ.length : Int) ∧ (a_g.Succ.length : Int) ≤ (a_g.Succ.length : Int) ∧ (a_g.Succ.length : Int) ≤ (room : Int)) ((Aw (S := (Int × List (List (Bool)))) (X := List (List (Bool))) (Cr a_g x1) ((0 : Int), (List.replicate ((a_g.Succ.length : Int)).toNat ([] : List (Bool))))).bind (fun x17 => (((Aw (S := (List (TDep) × Int)) (X := List (TDep)) (Cq a_g x1 x17) (([] : List TDep), (0 : Int))).bind (fun x43 => ((some x43))))))))))
theorem I9 (a_g : TGraph) (r : List (TDep)) (h : Ek a_g = some r) : Spec Try.prog 11 [(.agg (At a_g))] [] (AV.list 3 Ax (default : TDep) r (.own 20000)) [(20000, .tok 3 37 r.length)] := by
  refine Ap (fn := Try.f11) Try.func11 rfl rfl (by kernel_rfl) (fun Γ hn hΓ => ?_); have hq : RgQ Try.prog Γ 117 [] := ⟨hn, mix, hΓ⟩; unfold Ek at h; refine B5 [] [(2, Iv)] ⟨[(1, (.ptr 1 0))], [(1, .row 26 (Fi a_g))], []⟩ [(AVle (.slice 0 0 (fun _ => []) .exact) Iv)] hq ⟨Cs, trivial⟩ ?_; refine B5 [] [(3, Iv)] ⟨[(1, (.ptr 1 0)), (3, Iv)], [(1, .row 26 (Fi a_g))], []⟩ [(AVle (.slice 0 0 (fun _ => []) .exact) Iv)] hq ⟨Cs, trivial⟩ ?_; obtain ⟨x1, hx1, h⟩ := bind_some h; refine B5 [⟨[], [], (.tuple [(.agg (At x1.1)), (.int .i64 x1.2)]), [], []⟩] [] ⟨[(1, (.ptr 1 0)), (3, Iv), (4, (.ptr 4 0)), (5, (.int .i64 x1.2))], [(1, .row 26 (Fi a_g)), (4, .row 26 (Fq x1))], []⟩ [(Spec Try.prog 25 [(.agg (At a_g))] [] (.tuple [(.agg (At x1.1)), (.int .i64 x1.2)]) [])] hq ⟨(M6 a_g x1 hx1), trivial⟩ ?_; refine Ac ?_; refine Aq ⟨[(1, (.ptr 1 0)), (3, Iv), (4, (.ptr 4 0)), (19, (.bool ((x1.2 : Int) != (0 : Int))))], [(1, .row 26 (Fi a_g)), (4, .row 26 (Fq x1))], []⟩ hq ?_; refine Ai ((x1.2 : Int) != (0 : Int)) (by kernel_rfl) (fun hb => ?_) (fun hb => ?_)
  · replace h := Ak hb h; clear hb; refine B5 [] [(2, Iv)] ⟨[(2, Iv)], [], []⟩ [(AVle (.slice 0 0 (fun _ => []) .exact) Iv)] hq ⟨Cs, trivial⟩ ?_; refine Af (st' := Q369) (Le.trans (Ed (st' := ⟨[(2, Iv)], [], []⟩) [2] [] hq) (Le.trans (In (t := 2) (nm := 6002) (sz' := 3) (fun i => Ax (([] : List TDep).getD i Hq)) 37 rfl rfl (.inl ⟨rfl, rfl⟩) (fun h_ => absurd h_ (by decide))) (Ed (st' := Q369) [2] [6002] hq))) ?_; refine Ao ?_; refine Ay ?_; obtain rfl := OI h; exact ⟨.inl rfl, [(6002, 20000)], by kernel_rfl⟩
  · replace h := Ar hb h; clear hb; refine Ag ?_; refine Aa ?_; refine Aq ⟨[(1, (.ptr 1 0)), (3, Iv), (4, (.ptr 4 0)), (6, (G6 a_g))], [(1, .row 26 (Fi a_g)), (4, .row 26 (Fq x1))], []⟩ hq ?_; obtain ⟨hc2, h⟩ := Ab h; refine B5 [] [] ⟨[(1, (.ptr 1 0)), (3, Iv), (4, (.ptr 4 0)), (6, (G6 a_g)), (7, (.vsl 24 ((Gp a_g)).toNat))], [(1, .row 26 (Fi a_g)), (4, .row 26 (Fq x1)), (24, .arr 1 40 (((Gp a_g)).toNat) (fun i_ => AV.eraseAll (fun n_ => Cl n_ [1, 4, 24]) ((fun _ => [(.slice 0 0 (fun _ => []) .exact)]) i_)))], []⟩ [(0 ≤ (Gp a_g) ∧ (Gp a_g) ≤ (Gp a_g) ∧ (Gp a_g) ≤ (room : Int))] hq ⟨hc2, trivial⟩ ?_; refine Af (Le.trans (B6 (st' := ⟨[(1, (.ptr 1 0)), (3, Iv), (4, (.ptr 4 0)), (6, (G6 a_g)), (7, (.vsl 24 ((Gp a_g)).toNat))], [(1, .row 26 (Fi a_g)), (4, .row 26 (Fq x1)), (24, .arr 1 40 (((Gp a_g)).toNat) (fun i => eLB ((Q364 a_g).getD i [])))], []⟩) (TmpsLe.refl _) (.same (.same (.arr (fun k hk => J5 (e := eLB) (d := []) (.cons (fun _ _ _ _ _ hh => AVle.untag _ _ _ _ _ (Cs _ _ _ _ _ hh)) .nil) _ k (Ju hk)) .nil)))) (Ba (congrArg (fun k_ : Nat => (⟨[(1, (.ptr 1 0)), (3, Iv), (4, (.ptr 4 0)), (6, (G6 a_g)), (7, (.vsl 24 k_))], [(1, .row 26 (Fi a_g)), (4, .row 26 (Fq x1)), (24, .arr 1 40 k_ (fun i => eLB ((Q364 a_g).getD i [])))], []⟩ : St)) (show ((Gp a_g)).toNat = (Q364 a_g).length from (List.length_replicate ..).symm)))) ?_; refine Ac ?_; refine Aq ⟨[(1, (.ptr 1 0)), (3, Iv), (4, (.ptr 4 0)), (6, (G6 a_g)), (7, (.vsl 24 (Q364 a_g).length)), (8, (.int .i64 (0 : Int)))], [(1, .row 26 (Fi a_g)), (4, .row 26 (Fq x1)), (24, .arr 1 40 ((Q364 a_g).length) (fun i => eLB ((Q364 a_g).getD i [])))], []⟩ hq ?_; refine Ah ?_; refine Af (st' := (fun ((i3, l4) : (Int × List (List (Bool)))) => (⟨(Y3 a_g l4 i3), [(1, .row 26 (Fi a_g)), (4, .row 26 (Fq x1)), (24, .arr 1 40 l4.length (M2 l4))], []⟩ : St)) ((0 : Int), (Q364 a_g))) (Le.refl _ _) ?_; obtain ⟨x17, hx17, h⟩ := bind_some h; refine A2 (fun ((i3, l4) : (Int × List (List (Bool)))) => (⟨(Y3 a_g l4 i3), [(1, .row 26 (Fi a_g)), (4, .row 26 (Fq x1)), (24, .arr 1 40 l4.length (M2 l4))], []⟩ : St)) _ (fun (l5 : List (List (Bool))) (e : Exit) (st : St) => e = (.exit 0) ∧ Le Γ st (⟨[(1, (.ptr 1 0)), (3, Iv), (4, (.ptr 4 0)), (6, (G6 a_g)), (7, (.vsl 24 l5.length))], [(1, .row 26 (Fi a_g)), (4, .row 26 (Fq x1)), (24, .arr 1 40 l5.length (fun i => eLB (l5.getD i [])))], []⟩ : St)) ?_ hx17 ?_
    · rintro ⟨i3, l4⟩ y h; unfold Cr at h; refine Ac ?_; refine Aq ⟨[(1, (.ptr 1 0)), (3, Iv), (4, (.ptr 4 0)), (6, (G6 a_g)), (7, (Q345 l4)), (8, (.int .i64 i3)), (27, (.bool (decide ((i3 : Int) < (Gp a_g)))))], [(1, .row 26 (Fi a_g)), (4, .row 26 (Fq x1)), (24, .arr 1 40 l4.length (M2 l4))], []⟩ hq ?_; refine Ai (decide ((i3 : Int) < (Gp a_g))) (by kernel_rfl) (fun hb => ?_) (fun hb => ?_)
      · replace h := Ak hb h; clear hb; refine Ag ?_; refine Aa ?_; refine Ac ?_; refine Ah ?_; obtain ⟨hc6, h⟩ := Ab h; obtain ⟨hc7, h⟩ := Ab h; refine B5 [] [] ⟨(Y3 a_g l4 i3), [(1, .row 26 (Fi a_g)), (4, .row 26 (Fq x1)), (24, .arr 1 40 l4.length (fun i_ => AV.eraseAll Va ((D0 (M2 l4) (i3).toNat 0 [(.vsl 33 ((Gp a_g)).toNat)]) i_))), (33, .arr 1 4 (((Gp a_g)).toNat) (fun i_ => AV.eraseAll Va ((fun _ => [(.bool false)]) i_)))], []⟩ [(0 ≤ (Gp a_g) ∧ (Gp a_g) ≤ (Gp a_g) ∧ (Gp a_g) ≤ (room : Int)), (A4 i3 l4.length), (l4.length = l4.length)] hq ⟨hc6, hc7, rfl, trivial⟩ ?_; refine Af (Le.trans (Le.trans (B6 (st' := ⟨(Y3 a_g l4 i3), [(1, .row 26 (Fi a_g)), (4, .row 26 (Fq x1)), (24, .arr 1 40 l4.length (fun i_ => AV.eraseAll Va ((D0 (M2 l4) (i3).toNat 0 [(.vsl 33 ((Gp a_g)).toNat)]) i_))), (33, .arr 1 4 (((Gp a_g)).toNat) (fun i => eB ((V9 a_g).getD i false)))], []⟩) (TmpsLe.refl _) (.same (.same (.same (.arr (fun k hk => J5 (e := eB) (d := false) (.cons (AVle.refl _) .nil) _ k (Ju hk)) .nil))))) (Ba (congrArg (fun k_ : Nat => (⟨(Y3 a_g l4 i3), [(1, .row 26 (Fi a_g)), (4, .row 26 (Fq x1)), (24, .arr 1 40 l4.length (fun i_ => AV.eraseAll Va ((D0 (M2 l4) (i3).toNat 0 [(.vsl 33 k_)]) i_))), (33, .arr 1 4 k_ (fun i => eB ((V9 a_g).getD i false)))], []⟩ : St)) (show ((Gp a_g)).toNat = (V9 a_g).length from (List.length_replicate ..).symm)))) (B6 (st' := ⟨(Y3 a_g l4 i3), (Q360 a_g x1 l4 i3), []⟩) (TmpsLe.refl _) (.same (.same (.arr (Hb (fun _ => rfl) rfl) (.same .nil)))))) ?_; refine Aq (Q365 a_g l4 i3 x1) hq ?_; refine Af (B6 (st' := ⟨(Q355 a_g l4 i3), (Q360 a_g x1 l4 i3), []⟩) (TmpsLe.refl _) (.same (.same (.arr (Hb (fun _ => rfl) rfl) (.same .nil))))) ?_; refine Ah ?_; refine Af (st' := (fun ((i8, l9) : (Int × List (Bool))) => (⟨(Q349 a_g l4 i3 i8), (Q352 a_g x1 l4 i3 l9), []⟩ : St)) ((0 : Int), (V9 a_g))) (Le.trans (Le.trans (Ed (st' := (Q365 a_g l4 i3 x1)) [1, 3, 4, 6, 7, 8, 9] [1, 4, 24, 33] hq) (B6 (st' := ⟨(Q355 a_g l4 i3), (Q360 a_g x1 l4 i3), []⟩) (TmpsLe.refl _) (.same (.same (.arr (Hb (fun _ => rfl) rfl) (.same .nil)))))) (Ba (by kernel_rfl))) ?_; obtain ⟨x15, hx15, h⟩ := bind_some h; refine A2 (fun ((i8, l9) : (Int × List (Bool))) => (⟨(Q349 a_g l4 i3 i8), (Q352 a_g x1 l4 i3 l9), []⟩ : St)) _ (fun (l10 : List (Bool)) (e : Exit) (st : St) => e = (.exit 2) ∧ Le Γ st (⟨(Y3 a_g l4 i3), [(1, .row 26 (Fi a_g)), (4, .row 26 (Fq x1)), (24, .arr 1 40 l4.length (D0 (M2 l4) (i3).toNat 0 [(.vsl 33 l10.length)])), (33, .arr 1 4 l10.length (fun i => eB (l10.getD i false)))], []⟩ : St)) ?_ hx15 ?_
        · rintro ⟨i8, l9⟩ y h; unfold Cn at h; refine Ac ?_; refine Aq ⟨[(1, (.ptr 1 0)), (3, Iv), (4, (.ptr 4 0)), (6, (G6 a_g)), (7, (Q345 l4)), (8, (.int .i64 i3)), (9, (.int .i64 i8)), (37, (.bool (decide ((i8 : Int) < (Gp a_g)))))], [(1, .row 26 (Fi a_g)), (4, .row 26 (Fq x1)), (24, .arr 1 40 l4.length (Q367 l4 i3 l9)), (33, .arr 1 4 l9.length (fun i => eB (l9.getD i false)))], []⟩ hq ?_; refine Af (B6 (st' := ⟨[(1, (.ptr 1 0)), (3, Iv), (4, (.ptr 4 0)), (6, (G6 a_g)), (7, (Q345 l4)), (8, (.int .i64 i3)), (9, (.int .i64 i8)), (37, (.bool (decide ((i8 : Int) < (Gp a_g)))))], (Q352 a_g x1 l4 i3 l9), []⟩) (TmpsLe.refl _) (.same (.same (.arr (Hb (fun _ => rfl) rfl) (.same .nil))))) ?_; refine Ai (decide ((i8 : Int) < (Gp a_g))) (by kernel_rfl) (fun hb => ?_) (fun hb => ?_)
          · replace h := Ak hb h; clear hb; refine Ag ?_; refine Aa ?_; refine Ac ?_; refine Ah ?_; obtain ⟨hc11, h⟩ := Ab h; obtain ⟨x12, hx12, h⟩ := bind_some h; obtain ⟨hc13, h⟩ := Ab h; obtain ⟨hc14, h⟩ := Ab h; refine rg [⟨[], [(20000, 48)], (AV.list 1 eB false x12 (.own 20000)), [(20000, .tok 1 4 x12.length)], []⟩] [(43, (.vsl 33 l9.length))] ⟨(Q349 a_g l4 i3 i8), [(1, .row 26 (Fi a_g)), (4, .row 26 (Fq x1)), (24, .arr 1 40 l4.length (Q367 l4 i3 l9)), (33, .arr 1 4 l9.length (fun i_ => AV.eraseAll Va ((D0 (fun i => eB (l9.getD i false)) (i8).toNat 0 [(.bool (!(x12.getD ((Gp a_g)).toNat false)))]) i_)))], []⟩ [(A4 i3 l4.length), (l4.length = l4.length), (AVle (((D0 (M2 l4) (i3).toNat 0 [(.vsl 33 l9.length)]) (i3).toNat).getD 0 .any) (.vsl 33 l9.length)), (Spec Try.prog 17 [(.agg (At x1.1)), (.int .i64 i8), (.int .i64 i3)] [] (AV.list 1 eB false x12 (.own 20000)) [(20000, .tok 1 4 x12.length)]), (A4 (Gp a_g) x12.length), (A4 i8 l9.length), (l9.length = l9.length)] hq ⟨hc11, rfl, lent_load, (Eg x1.1 i8 i3 x12 hx12), hc13, hc14, rfl, trivial⟩ ?_; refine Aj ?_; refine Aa ?_; refine Af (Le.trans (Le.trans (B6 (st' := ⟨(Q349 a_g l4 i3 i8), [(1, .row 26 (Fi a_g)), (4, .row 26 (Fq x1)), (24, .arr 1 40 l4.length (Q367 l4 i3 l9)), (33, .arr 1 4 l9.length (fun i => eB ((Y2 l9 i8 x12 a_g).getD i false)))], []⟩) (TmpsLe.refl _) (.same (.same (.same (.arr (Bv (List.length_set ..).symm (fun k_ hk_ => (congrArg (AV.eraseAll Va) ((Gf (fun _ _ => rfl) (He hc14) rfl) k_ hk_)).trans rfl)) .nil))))) (Ba (congrArg (fun k_ : Nat => (⟨(Q349 a_g l4 i3 i8), [(1, .row 26 (Fi a_g)), (4, .row 26 (Fq x1)), (24, .arr 1 40 l4.length (fun i_ => AV.eraseAll Va ((D0 (M2 l4) (i3).toNat 0 [(.vsl 33 k_)]) i_))), (33, .arr 1 4 k_ (fun i => eB ((Y2 l9 i8 x12 a_g).getD i false)))], []⟩ : St)) (show l9.length = (Y2 l9 i8 x12 a_g).length from (List.length_set ..).symm)))) (B6 (st' := ⟨(Q349 a_g l4 i3 i8), (Q359 a_g x1 l4 i3 l9 i8 x12), []⟩) (TmpsLe.refl _) (.same (.same (.arr (Hb (fun _ => rfl) rfl) (.same .nil)))))) ?_; refine Jt (Q363 a_g l4 i3 i8 x1 l9 x12) hq ?_; obtain rfl := OI h; exact ⟨rfl, Le.trans (B6 (st' := ⟨(Q354 a_g l4 i3 i8), (Q359 a_g x1 l4 i3 l9 i8 x12), []⟩) (TmpsLe.refl _) (.same (.same (.arr (Hb (fun _ => rfl) rfl) (.same .nil))))) (Le.trans (Le.trans (Ed (st' := (Q363 a_g l4 i3 i8 x1 l9 x12)) [1, 3, 4, 6, 7, 8, 9] [1, 4, 24, 33] hq) (B6 (st' := ⟨(Q354 a_g l4 i3 i8), (Q359 a_g x1 l4 i3 l9 i8 x12), []⟩) (TmpsLe.refl _) (.same (.same (.arr (Hb (fun _ => rfl) rfl) (.same .nil)))))) (Ba (by kernel_rfl)))⟩
          · replace h := Ar hb h; clear hb; refine A3 ?_; refine Az ?_; obtain rfl := OI h; exact ⟨(by intro hh; cases hh), rfl, Le.trans (Le.trans (Ed (st' := ⟨(Y3 a_g l4 i3), [(1, .row 26 (Fi a_g)), (4, .row 26 (Fq x1)), (24, .arr 1 40 l4.length (Q367 l4 i3 l9)), (33, .arr 1 4 l9.length (fun i => eB (l9.getD i false)))], []⟩) [1, 3, 4, 6, 7, 8] [1, 4, 24, 33] hq) (B6 (st' := ⟨(Y3 a_g l4 i3), (Q352 a_g x1 l4 i3 l9), []⟩) (TmpsLe.refl _) (.same (.same (.arr (Hb (fun _ => rfl) rfl) (.same .nil)))))) (Ba (by kernel_rfl))⟩
        · clear hx15; rintro e st' ⟨rfl, hl16⟩; refine Au ?_; refine Aj ?_; refine Aa ?_; refine Af hl16 ?_; refine Jt ⟨(Q356 a_g l4 i3), [(1, .row 26 (Fi a_g)), (4, .row 26 (Fq x1)), (24, .arr 1 40 l4.length (fun i_ => AV.eraseAll Va ((D0 (M2 l4) (i3).toNat 0 [(.vsl 33 x15.length)]) i_))), (33, .arr 1 4 x15.length (fun i => eB (x15.getD i false)))], []⟩ hq ?_; obtain rfl := OI h; exact ⟨rfl, Le.trans (Le.trans (B6 (st' := ⟨(Q356 a_g l4 i3), [(1, .row 26 (Fi a_g)), (4, .row 26 (Fq x1)), (24, .arr 1 40 l4.length (D0 (M2 l4) (i3).toNat 0 [(.vsl 33 x15.length)])), (33, .arr 1 4 x15.length (fun i => eB (x15.getD i false)))], []⟩) (TmpsLe.refl _) (.same (.same (.arr (Hb (fun _ => rfl) rfl) (.same .nil))))) (Le.trans (Le.trans (Le.trans (Es (nm := 33) (sz := 1) (n := x15.length) (e := 4) (f := (fun i => eB (x15.getD i false))) (g := (fun i => eB (x15.getD i false))) rfl trivial (fun _ _ => rfl) (by rw [hΓ]; rfl)) (Ba (st' := ⟨(Q356 a_g l4 i3), [(1, .row 26 (Fi a_g)), (4, .row 26 (Fq x1)), (24, .arr 1 40 l4.length (fun i_ => AV.frwAll 33 1 x15.length (fun i => eB (x15.getD i false)) ((D0 (M2 l4) (i3).toNat 0 [(.vsl 33 x15.length)]) i_))), (33, .tok 1 4 x15.length)], []⟩) (by kernel_rfl))) (B6 (st' := ⟨(Q356 a_g l4 i3), [(1, .row 26 (Fi a_g)), (4, .row 26 (Fq x1)), (24, .arr 1 40 l4.length (fun i => eLB ((l4.set (i3).toNat x15).getD i []))), (33, .tok 1 4 x15.length)], []⟩) (TmpsLe.refl _) (.same (.same (.arr (lent_put (fun _ => rfl) (fun _ => rfl) rfl) (.same .nil)))))) (Ba (congrArg (fun k_ : Nat => (⟨[(1, (.ptr 1 0)), (3, Iv), (4, (.ptr 4 0)), (6, (G6 a_g)), (7, (.vsl 24 k_)), (8, (.int .i64 (Bi (i3 + (1 : Int)))))], [(1, .row 26 (Fi a_g)), (4, .row 26 (Fq x1)), (24, .arr 1 40 k_ (fun i => eLB ((l4.set (i3).toNat x15).getD i []))), (33, .tok 1 4 x15.length)], []⟩ : St)) (show l4.length = (l4.set (i3).toNat x15).length from (List.length_set ..).symm))))) (Ed [1, 3, 4, 6, 7, 8] [1, 4, 24] hq)⟩
      · replace h := Ar hb h; clear hb; refine A3 ?_; refine Az ?_; obtain rfl := OI h; exact ⟨(by intro hh; cases hh), rfl, Ed [1, 3, 4, 6, 7] [1, 4, 24] hq⟩
    · clear hx17; rintro e st' ⟨rfl, hl18⟩; refine Au ?_; refine Aa ?_; refine Af hl18 ?_; refine Ac ?_; refine Aq (Q368 a_g x17 x1) hq ?_; refine Ah ?_; refine Af (st' := (fun ((l19, i20) : (List (TDep) × Int)) => (⟨[(1, (.ptr 1 0)), (3, (AV.list 3 Ax Hq l19 (.own 5003))), (4, (.ptr 4 0)), (6, (G6 a_g)), (7, (L2 x17)), (10, (.int .i64 i20))], (Q358 a_g x1 x17 l19), []⟩ : St)) (([] : List TDep), (0 : Int))) (Le.trans (Ed (st' := (Q368 a_g x17 x1)) [1, 3, 4, 6, 7, 10] [1, 4, 24] hq) (Le.trans (In (t := 3) (nm := 5003) (sz' := 3) (fun i => Ax (([] : List TDep).getD i Hq)) 37 rfl rfl (.inl ⟨rfl, rfl⟩) (fun h_ => absurd h_ (by decide))) (Ed (st' := ⟨[(1, (.ptr 1 0)), (3, (AV.list 3 Ax Hq ([] : List TDep) (.own 5003))), (4, (.ptr 4 0)), (6, (G6 a_g)), (7, (L2 x17)), (10, (.int .i64 (0 : Int)))], [(1, .row 26 (Fi a_g)), (4, .row 26 (Fq x1)), (24, .arr 1 40 x17.length (Qv x17)), (5003, .tok 3 37 (([] : List TDep).length))], []⟩) [1, 3, 4, 6, 7, 10] [1, 4, 24, 5003] hq))) ?_; obtain ⟨x43, hx43, h⟩ := bind_some h; refine A2 (fun ((l19, i20) : (List (TDep) × Int)) => (⟨[(1, (.ptr 1 0)), (3, (AV.list 3 Ax Hq l19 (.own 5003))), (4, (.ptr 4 0)), (6, (G6 a_g)), (7, (L2 x17)), (10, (.int .i64 i20))], (Q358 a_g x1 x17 l19), []⟩ : St)) _ (fun (l21 : List (TDep)) (e : Exit) (st : St) => e = (.exit 4) ∧ Le Γ st (⟨[(3, (AV.list 3 Ax Hq l21 (.own 5003)))], [(5003, .tok 3 37 l21.length)], []⟩ : St)) ?_ hx43 ?_
      · rintro ⟨l19, i20⟩ y h; unfold Cq at h; refine Ac ?_; refine Aq ⟨[(1, (.ptr 1 0)), (3, (AV.list 3 Ax Hq l19 (.own 5003))), (4, (.ptr 4 0)), (6, (G6 a_g)), (7, (L2 x17)), (10, (.int .i64 i20)), (56, (.bool (decide ((i20 : Int) < (Gp a_g)))))], (Q358 a_g x1 x17 l19), []⟩ hq ?_; refine Ai (decide ((i20 : Int) < (Gp a_g))) (by kernel_rfl) (fun hb => ?_) (fun hb => ?_)
        · replace h := Ak hb h; clear hb; refine Ag ?_; refine Aa ?_; refine Ac ?_; refine Ah ?_; refine Aq ⟨[(1, (.ptr 1 0)), (3, (AV.list 3 Ax Hq l19 (.own 5003))), (4, (.ptr 4 0)), (6, (G6 a_g)), (7, (L2 x17)), (10, (.int .i64 i20)), (11, (.int .i64 (0 : Int)))], (Q358 a_g x1 x17 l19), []⟩ hq ?_; refine Ah ?_; refine Af (st' := (fun ((l22, i23) : (List (TDep) × Int)) => (⟨[(1, (.ptr 1 0)), (3, (AV.list 3 Ax Hq l22 (.own 5003))), (4, (.ptr 4 0)), (6, (G6 a_g)), (7, (L2 x17)), (10, (.int .i64 i20)), (11, (.int .i64 i23))], (Q362 a_g x1 x17 l22), []⟩ : St)) (l19, (0 : Int))) (Le.refl _ _) ?_; obtain ⟨x41, hx41, h⟩ := bind_some h; refine A2 (fun ((l22, i23) : (List (TDep) × Int)) => (⟨[(1, (.ptr 1 0)), (3, (AV.list 3 Ax Hq l22 (.own 5003))), (4, (.ptr 4 0)), (6, (G6 a_g)), (7, (L2 x17)), (10, (.int .i64 i20)), (11, (.int .i64 i23))], (Q362 a_g x1 x17 l22), []⟩ : St)) _ (fun (l24 : List (TDep)) (e : Exit) (st : St) => e = (.exit 6) ∧ Le Γ st (⟨[(1, (.ptr 1 0)), (3, (AV.list 3 Ax Hq l24 (.own 5003))), (4, (.ptr 4 0)), (6, (G6 a_g)), (7, (L2 x17)), (10, (.int .i64 i20))], [(1, .row 26 (Fi a_g)), (4, .row 26 (Fq x1)), (24, .arr 1 40 x17.length (Qv x17)), (5003, .tok 3 37 l24.length)], []⟩ : St)) ?_ hx41 ?_
          · rintro ⟨l22, i23⟩ y h; unfold Co at h; refine Ac ?_; refine Aq ⟨[(1, (.ptr 1 0)), (3, (AV.list 3 Ax Hq l22 (.own 5003))), (4, (.ptr 4 0)), (6, (G6 a_g)), (7, (L2 x17)), (10, (.int .i64 i20)), (11, (.int .i64 i23)), (61, (.bool (decide ((i23 : Int) < (Gp a_g)))))], (Q362 a_g x1 x17 l22), []⟩ hq ?_; refine Ai (decide ((i23 : Int) < (Gp a_g))) (by kernel_rfl) (fun hb => ?_) (fun hb => ?_)
            · replace h := Ak hb h; clear hb; refine Ag ?_; refine Aa ?_; refine Ac ?_; refine Ah ?_; refine Aq ⟨[(1, (.ptr 1 0)), (3, (AV.list 3 Ax Hq l22 (.own 5003))), (4, (.ptr 4 0)), (6, (G6 a_g)), (7, (L2 x17)), (10, (.int .i64 i20)), (11, (.int .i64 i23)), (12, (.int .i64 (0 : Int)))], (Q362 a_g x1 x17 l22), []⟩ hq ?_; refine Ah ?_; refine Af (st' := (fun ((l25, i26) : (List (TDep) × Int)) => (Q357 l25 a_g x17 i20 i23 i26 x1)) (l22, (0 : Int))) (Le.refl _ _) ?_; obtain ⟨x39, hx39, h⟩ := bind_some h; refine A2 (fun ((l25, i26) : (List (TDep) × Int)) => (Q357 l25 a_g x17 i20 i23 i26 x1)) _ (fun (l27 : List (TDep)) (e : Exit) (st : St) => e = (.exit 8) ∧ Le Γ st (⟨[(1, (.ptr 1 0)), (3, (AV.list 3 Ax Hq l27 (.own 5003))), (4, (.ptr 4 0)), (6, (G6 a_g)), (7, (L2 x17)), (10, (.int .i64 i20)), (11, (.int .i64 i23))], [(1, .row 26 (Fi a_g)), (4, .row 26 (Fq x1)), (24, .arr 1 40 x17.length (Qv x17)), (5003, .tok 3 37 l27.length)], []⟩ : St)) ?_ hx39 ?_
              · rintro ⟨l25, i26⟩ y h; unfold B7 at h; refine Ac ?_; obtain ⟨hc28, h⟩ := Ab h; refine B5 [] [] ⟨[(1, (.ptr 1 0)), (3, (AV.list 3 Ax Hq l25 (.own 5003))), (4, (.ptr 4 0)), (6, (G6 a_g)), (7, (L2 x17)), (10, (.int .i64 i20)), (11, (.int .i64 i23)), (12, (.int .i64 i26)), (75, (.bool (bif (decide ((i26 : Int) < (Gp a_g))) then (decide (((1 : Int) : Int) < ((x1.1.Succ.getD (i23).toNat []).length : Int))) else false)))], [(1, .row 26 (Fi a_g)), (4, .row 26 (Fq x1)), (24, .arr 1 40 x17.length (Qv x17)), (5003, .tok 3 37 l25.length)], []⟩ [((Qr i26 a_g) = true → (Qr i26 a_g) = true), ((Qr i26 a_g) = true → (Qr i26 a_g) = true), ((Qr i26 a_g) = true → (Qr i26 a_g) = true), ((Qr i26 a_g) = true → (A4 i23 x1.1.Succ.length)), ((Qr i26 a_g) = true → (Qr i26 a_g) = true), ((Qr i26 a_g) = true → (Qr i26 a_g) = true), ((Qr i26 a_g) = true → (Qr i26 a_g) = true), ((decide ((i26 : Int) < (Gp a_g))) = true → (Qr i26 a_g) = true)] hq ⟨(fun hg => hg), (fun hg => hg), (fun hg => hg), (fun hg => (hc28 hg)), (fun hg => hg), (fun hg => hg), (fun hg => hg), gT, trivial⟩ ?_; refine Ai (bif (decide ((i26 : Int) < (Gp a_g))) then (decide (((1 : Int) : Int) < ((x1.1.Succ.getD (i23).toNat []).length : Int))) else false) (by kernel_rfl) (fun hb => ?_) (fun hb => ?_)
                · replace h := Ak hb h; clear hb; refine Ag ?_; refine Aa ?_; refine Ac ?_; obtain ⟨x37, hx37, h⟩ := bind_some h; refine E7 (fun (l29 : List (TDep)) (e : Exit) (st : St) => e = .normal ∧ Le Γ st (⟨[(1, (.ptr 1 0)), (3, (AV.list 3 Ax Hq l29 (.own 5003))), (4, (.ptr 4 0)), (6, (G6 a_g)), (7, (L2 x17)), (10, (.int .i64 i20)), (11, (.int .i64 i23)), (12, (.int .i64 i26))], [(1, .row 26 (Fi a_g)), (4, .row 26 (Fq x1)), (24, .arr 1 40 x17.length (Qv x17)), (5003, .tok 3 37 l29.length)], []⟩ : St)) hx37 ?_ ?_
                  · clear h hx37; intro y h; refine Ah ?_; obtain ⟨hc30, h⟩ := Ab h; obtain ⟨x31, hx31, h⟩ := bind_some h; obtain ⟨hc32, h⟩ := Ab h; obtain ⟨hc33, h⟩ := Ab h; obtain ⟨hc34, h⟩ := Ab h; obtain ⟨hc35, h⟩ := Ab h; refine B5 [⟨[], [], (.bool x31), [], []⟩] [] ⟨[(1, (.ptr 1 0)), (3, (AV.list 3 Ax Hq l25 (.own 5003))), (4, (.ptr 4 0)), (6, (G6 a_g)), (7, (L2 x17)), (10, (.int .i64 i20)), (11, (.int .i64 i23)), (12, (.int .i64 i26)), (108, (.bool (bif (bif x31 then ((x17.getD (i20).toNat []).getD (i26).toNat false) else false) then (bif ((i20 : Int) == i23) then true else (!((x17.getD (i20).toNat []).getD (i23).toNat false))) else false)))], [(1, .row 26 (Fi a_g)), (4, .row 26 (Fq x1)), (24, .arr 1 40 x17.length (Qv x17)), (5003, .tok 3 37 l25.length)], []⟩ [(A4 i23 a_g.Succ.length), (Spec Try.prog 18 [(AV.list 1 Ad (0 : Int) (a_g.Succ.getD (i23).toNat []) .none), (.int .i64 i26)] [] (.bool x31) []), ((x31 == true) = true → (x31 == true) = true), ((x31 == true) = true → (x31 == true) = true), ((x31 == true) = true → (A4 i20 x17.length)), ((x31 == true) = true → (x31 == true) = true), ((x31 == true) = true → (x17.length = x17.length)), ((x31 == true) = true → (x31 == true) = true), ((x31 == true) = true → (x31 == true) = true), ((x31 == true) = true → (A4 i26 (x17.getD (i20).toNat []).length)), ((x31 == true) = true → (x31 == true) = true), (x31 = true → (x31 == true) = true), ((U0 x31 x17 i20 i26) = true → (U0 x31 x17 i20 i26) = true), ((U0 x31 x17 i20 i26) = true → (U0 x31 x17 i20 i26) = true), ((U0 x31 x17 i20 i26) = true → (U0 x31 x17 i20 i26) = true), ((M8 x31 x17 i20 i26 i23) = true → (M8 x31 x17 i20 i26 i23) = true), ((M8 x31 x17 i20 i26 i23) = true → (M8 x31 x17 i20 i26 i23) = true), ((M8 x31 x17 i20 i26 i23) = true → (A4 i20 x17.length)), ((M8 x31 x17 i20 i26 i23) = true → (M8 x31 x17 i20 i26 i23) = true), ((M8 x31 x17 i20 i26 i23) = true → (x17.length = x17.length)), ((M8 x31 x17 i20 i26 i23) = true → (M8 x31 x17 i20 i26 i23) = true), ((M8 x31 x17 i20 i26 i23) = true → (M8 x31 x17 i20 i26 i23) = true), ((M8 x31 x17 i20 i26 i23) = true → (A4 i23 (x17.getD (i20).toNat []).length)), ((M8 x31 x17 i20 i26 i23) = true → (M8 x31 x17 i20 i26 i23) = true), ((M8 x31 x17 i20 i26 i23) = true → (M8 x31 x17 i20 i26 i23) = true), ((U0 x31 x17 i20 i26) = true → (U0 x31 x17 i20 i26) = true), ((U0 x31 x17 i20 i26) = true → (((i20 : Int) == i23) = false → (M8 x31 x17 i20 i26 i23) = true)), ((bif x31 then ((x17.getD (i20).toNat []).getD (i26).toNat false) else false) = true → (U0 x31 x17 i20 i26) = true)] hq ⟨hc30, (Gv (a_g.Succ.getD (i23).toNat []) i26 x31 hx31), (fun hg => hg), (fun hg => hg), (fun hg => (hc32 hg)), (fun hg => hg), (fun hg => rfl), (fun hg => hg), (fun hg => hg), (fun hg => (hc33 hg)), (fun hg => hg), gT, (fun hg => hg), (fun hg => hg), (fun hg => hg), (fun hg => hg), (fun hg => hg), (fun hg => (hc34 hg)), (fun hg => hg), (fun hg => rfl), (fun hg => hg), (fun hg => hg), (fun hg => (hc35 hg)), (fun hg => hg), (fun hg => hg), (fun hg => hg), (fun hg => (aF hg)), gT, trivial⟩ ?_; refine Ai (bif (bif x31 then ((x17.getD (i20).toNat []).getD (i26).toNat false) else false) then (bif ((i20 : Int) == i23) then true else (!((x17.getD (i20).toNat []).getD (i23).toNat false))) else false) (by kernel_rfl) (fun hb => ?_) (fun hb => ?_)
                    · replace h := Ak hb h; clear hb; obtain ⟨hc36, h⟩ := Ab h; refine rg [] [(114, (AV.list 3 Ax Hq (Te i20 i23 i26) .exact)), (115, (AV.list 3 Ax Hq (l25 ++ (Te i20 i23 i26)) (.own 5003)))] ⟨[(1, (.ptr 1 0)), (3, (AV.list 3 Ax Hq (l25 ++ (Te i20 i23 i26)) (.own 5003))), (4, (.ptr 4 0)), (6, (G6 a_g)), (7, (L2 x17)), (10, (.int .i64 i20)), (11, (.int .i64 i23)), (12, (.int .i64 i26))], [(1, .row 26 (Fi a_g)), (4, .row 26 (Fq x1)), (24, .arr 1 40 x17.length (Qv x17)), (5003, .tok 3 37 ((l25 ++ (Te i20 i23 i26)).length))], []⟩ [(AVle (.slice 3 1 (fun i => ([[(.int .i64 i20), (.int .i64 i23), (.int .i64 i26)]] : List (List AV)).getD i []) .exact) (AV.list 3 Ax Hq (Te i20 i23 i26) .exact)), (l25.length = l25.length), (l25.length + (Te i20 i23 i26).length ≤ room), (AVle (.slice 3 (l25.length + (Te i20 i23 i26).length) (Ff l25.length (fun i => Ax (l25.getD i Hq)) (fun i => Ax ((Te i20 i23 i26).getD i Hq))) (.own 5003)) (AV.list 3 Ax Hq (l25 ++ (Te i20 i23 i26)) (.own 5003))), (l25.length + (Te i20 i23 i26).length = (l25 ++ (Te i20 i23 i26)).length)] hq ⟨(Em rfl (fun i hi => Ea (e := Ax) (d := Hq) (Te i20 i23 i26) i hi)), rfl, hc36, Ic, (Du _ _), trivial⟩ ?_; refine Aj ?_; obtain rfl := OI h; exact ⟨rfl, Le.refl _ _⟩
                    · replace h := Ar hb h; clear hb; refine Ag ?_; refine Aj ?_; obtain rfl := OI h; exact ⟨rfl, Ed [1, 3, 4, 6, 7, 10, 11, 12] [1, 4, 24, 5003] hq⟩
                  · clear hx37; rintro e st' ⟨rfl, hl38⟩; refine Aa ?_; refine Af hl38 ?_; refine Jt ⟨[(1, (.ptr 1 0)), (3, (AV.list 3 Ax Hq x37 (.own 5003))), (4, (.ptr 4 0)), (6, (G6 a_g)), (7, (L2 x17)), (10, (.int .i64 i20)), (11, (.int .i64 i23)), (12, (.int .i64 (Bi (i26 + (1 : Int)))))], [(1, .row 26 (Fi a_g)), (4, .row 26 (Fq x1)), (24, .arr 1 40 x17.length (Qv x17)), (5003, .tok 3 37 x37.length)], []⟩ hq ?_; obtain rfl := OI h; exact ⟨rfl, Le.refl _ _⟩
                · replace h := Ar hb h; clear hb; refine A3 ?_; refine Az ?_; obtain rfl := OI h; exact ⟨(by intro hh; cases hh), rfl, Ed [1, 3, 4, 6, 7, 10, 11] [1, 4, 24, 5003] hq⟩
              · clear hx39; rintro e st' ⟨rfl, hl40⟩; refine Au ?_; refine Aj ?_; refine Aa ?_; refine Af hl40 ?_; refine Jt ⟨[(1, (.ptr 1 0)), (3, (AV.list 3 Ax Hq x39 (.own 5003))), (4, (.ptr 4 0)), (6, (G6 a_g)), (7, (L2 x17)), (10, (.int .i64 i20)), (11, (.int .i64 (Bi (i23 + (1 : Int)))))], [(1, .row 26 (Fi a_g)), (4, .row 26 (Fq x1)), (24, .arr 1 40 x17.length (Qv x17)), (5003, .tok 3 37 x39.length)], []⟩ hq ?_; obtain rfl := OI h; exact ⟨rfl, Le.refl _ _⟩
            · replace h := Ar hb h; clear hb; refine A3 ?_; refine Az ?_; obtain rfl := OI h; exact ⟨(by intro hh; cases hh), rfl, Ed [1, 3, 4, 6, 7, 10] [1, 4, 24, 5003] hq⟩
          · clear hx41; rintro e st' ⟨rfl, hl42⟩; refine Au ?_; refine Aj ?_; refine Aa ?_; refine Af hl42 ?_; refine Jt ⟨[(1, (.ptr 1 0)), (3, (AV.list 3 Ax Hq x41 (.own 5003))), (4, (.ptr 4 0)), (6, (G6 a_g)), (7, (L2 x17)), (10, (.int .i64 (Bi (i20 + (1 : Int)))))], [(1, .row 26 (Fi a_g)), (4, .row 26 (Fq x1)), (24, .arr 1 40 x17.length (Qv x17)), (5003, .tok 3 37 x41.length)], []⟩ hq ?_; obtain rfl := OI h; exact ⟨rfl, Le.refl _ _⟩
        · replace h := Ar hb h; clear hb; refine A3 ?_; refine Az ?_; obtain rfl := OI h; exact ⟨(by intro hh; cases hh), rfl, Ed [3] [5003] hq⟩
      · clear hx43; rintro e st' ⟨rfl, hl44⟩; refine Au ?_; refine Aa ?_; refine Af hl44 ?_; refine Aq ⟨[(2, (AV.list 3 Ax Hq x43 (.own 5003)))], [(5003, .tok 3 37 x43.length)], []⟩ hq ?_; refine Ao ?_; obtain rfl := OI h; exact ⟨.inl rfl, [(5003, 20000)], by kernel_rfl⟩
def Ch (a_a : List (TDep)) (a_b : List (TDep)) : Int → Option (LR Int (Unit ⊕ Bool)) :=
  fun (i1 : Int) => (bif (decide ((i1 : Int) < (a_a.length : Int))) then (Bw (A4 i1 a_a.length) (Bw (A4 i1 a_b.length) (bif (!((((a_a.getD (i1).toNat (default : TDep)).Block : Int) == (a_b.getD (i1).toNat (default : TDep)).Block) && ((((a_a.getD (i1).toNat (default : TDep)).On : Int) == (a_b.getD (i1).toNat (default : TDep)).On) && ((((a_a.getD (i1).toNat (default : TDep)).To : Int) == (a_b.getD (i1).toNat (default : TDep)).To) && true)))) then (some (.done (.inr false))) else (some (.next (Bi (i1 + (1 : Int)))))))) else (some (.done (.inl ()))))
def Abo (a_a : List (TDep)) : AV := (AV.list 3 Ax (default : TDep) a_a .none)
def Q372 (a_b : List (TDep)) : AV := (AV.list 3 Ax (default : TDep) a_b .none)
def Q370 (a_a : List (TDep)) (i1 : Int) (a_b : List (TDep)) := (!((((a_a.getD (i1).toNat (default : TDep)).Block : Int) == (a_b.getD (i1).toNat (default : TDep)).Block) && ((((a_a.getD (i1).toNat (default : TDep)).On : Int) == (a_b.getD (i1).toNat (default : TDep)).On) && ((((a_a.getD (i1).toNat (default : TDep)).To : Int) == (a_b.getD (i1).toNat (default : TDep)).To) && true))))
def Cm (a_a : List (TDep)) (a_b : List (TDep)) : Option Bool :=
  (bif (((a_a.length : Int) : Int) != (a_b.length : Int)) then (some false) else ((Aw (S := Int) (X := (Unit ⊕ Bool)) (Ch a_a a_b) (0 : Int)).bind (fun x4 => (match x4 with | (.inl _) => (some true) | (.inr r6) => (some r6)))))
theorem Gq (a_a : List (TDep)) (a_b : List (TDep)) (r : Bool) (h : Cm a_a a_b = some r) : Spec Try.prog 9 [(AV.list 3 Ax (default : TDep) a_a .none), (AV.list 3 Ax (default : TDep) a_b .none)] [] (.bool r) [] := by
  refine Ap (fn := Try.f9) Try.func9 rfl rfl (by kernel_rfl) (fun Γ hn hΓ => ?_); have hq : RgQ Try.prog Γ 26 [] := ⟨hn, mix, hΓ⟩; unfold Cm at h; refine Aq ⟨[(0, (Abo a_a)), (1, (Q372 a_b))], [], []⟩ hq ?_; refine Ac ?_; refine Aq ⟨[(0, (Abo a_a)), (1, (Q372 a_b)), (10, (.bool (((a_a.length : Int) : Int) != (a_b.length : Int))))], [], []⟩ hq ?_; refine Ai (((a_a.length : Int) : Int) != (a_b.length : Int)) (by kernel_rfl) (fun hb => ?_) (fun hb => ?_)
  · replace h := Ak hb h; clear hb; refine Aq ⟨[(4, (.bool false))], [], []⟩ hq ?_; refine Ao ?_; refine Ay ?_; obtain rfl := OI h; exact ⟨.inl rfl, [], by kernel_rfl⟩
  · replace h := Ar hb h; clear hb; refine Ag ?_; refine Aa ?_; refine Ac ?_; refine Aq ⟨[(0, (Abo a_a)), (1, (Q372 a_b)), (5, (.int .i64 (0 : Int)))], [], []⟩ hq ?_; refine Ah ?_; refine Af (st' := (fun (i1 : Int) => (⟨[(0, (Abo a_a)), (1, (Q372 a_b)), (5, (.int .i64 i1))], [], []⟩ : St)) (0 : Int)) (Le.refl _ _) ?_; obtain ⟨x4, hx4, h⟩ := bind_some h; refine A2 (fun (i1 : Int) => (⟨[(0, (Abo a_a)), (1, (Q372 a_b)), (5, (.int .i64 i1))], [], []⟩ : St)) _ (fun (x_ : (Unit ⊕ Bool)) (e : Exit) (st : St) => match x_ with | (.inl _) => e = (.exit 0) ∧ Le Γ st (⟨[], [], []⟩ : St) | (.inr r_) => e = .ret ∧ Kr Try.prog Try.f9.results.toList [] (.bool r_) [] e st) ?_ hx4 ?_
    · intro i1 y h; unfold Ch at h; refine Ac ?_; refine Aq ⟨[(0, (Abo a_a)), (1, (Q372 a_b)), (5, (.int .i64 i1)), (14, (.bool (decide ((i1 : Int) < (a_a.length : Int)))))], [], []⟩ hq ?_; refine Ai (decide ((i1 : Int) < (a_a.length : Int))) (by kernel_rfl) (fun hb => ?_) (fun hb => ?_)
      · replace h := Ak hb h; clear hb; refine Ag ?_; refine Aa ?_; refine Ac ?_; refine Ah ?_; obtain ⟨hc2, h⟩ := Ab h; obtain ⟨hc3, h⟩ := Ab h; refine B5 [] [] ⟨[(0, (Abo a_a)), (1, (Q372 a_b)), (5, (.int .i64 i1)), (25, (.bool (Q370 a_a i1 a_b)))], [], []⟩ [(A4 i1 a_a.length), (A4 i1 a_b.length)] hq ⟨hc2, hc3, trivial⟩ ?_; refine Ai (Q370 a_a i1 a_b) (by kernel_rfl) (fun hb => ?_) (fun hb => ?_)
        · replace h := Ak hb h; clear hb; refine Aq ⟨[(4, (.bool false))], [], []⟩ hq ?_; refine Ao ?_; refine Bb ?_; refine Ay ?_; obtain rfl := OI h; exact ⟨(by intro hh; cases hh), rfl, ⟨.inl rfl, [], by kernel_rfl⟩⟩
        · replace h := Ar hb h; clear hb; refine Ag ?_; refine Aj ?_; refine Aa ?_; refine Jt ⟨[(0, (Abo a_a)), (1, (Q372 a_b)), (5, (.int .i64 (Bi (i1 + (1 : Int)))))], [], []⟩ hq ?_; obtain rfl := OI h; exact ⟨rfl, Le.refl _ _⟩
      · replace h := Ar hb h; clear hb; refine A3 ?_; refine Az ?_; obtain rfl := OI h; exact ⟨(by intro hh; cases hh), rfl, Ed [] [] hq⟩
    · clear hx4; rcases x4 with _ | r6
      · rintro e st' ⟨rfl, hl5⟩; refine Au ?_; refine Aa ?_; refine Af hl5 ?_; refine Aq ⟨[(4, (.bool true))], [], []⟩ hq ?_; refine Ao ?_; obtain rfl := OI h; exact ⟨.inl rfl, [], by kernel_rfl⟩
      · rintro e st' ⟨rfl, hk⟩; refine Bb ?_; refine Ay ?_; obtain rfl := OI h; exact hk
def Nw (x1 : List (Bool)) (a_b : Int) := ((x1.getD (a_b).toNat false) == true)
def C5 (a_g : TGraph) (a_root : Int) (a_a : Int) (a_b : Int) : Option Bool :=
  ((Bp a_g a_root (-1 : Int)).bind fun x1 => (Bw (A4 a_b x1.length) ((bif ((x1.getD (a_b).toNat false) == true) then Bp a_g a_root a_a else some []).bind fun x3 => (Bw (((x1.getD (a_b).toNat false) == true) = true → (A4 a_b x3.length)) (some (bif (x1.getD (a_b).toNat false) then (!(x3.getD (a_b).toNat false)) else false))))))
theorem Ii (a_g : TGraph) (a_root : Int) (a_a : Int) (a_b : Int) (r : Bool) (h : C5 a_g a_root a_a a_b = some r) : Spec Try.prog 29 [(.agg (At a_g)), (.int .i64 a_root), (.int .i64 a_a), (.int .i64 a_b)] [] (.bool r) [] := by
  refine Ap (fn := Try.f29) Try.func29 rfl rfl (by kernel_rfl) (fun Γ hn hΓ => ?_); have hq : RgQ Try.prog Γ 25 [] := ⟨hn, mix, hΓ⟩; unfold C5 at h; refine Aq ⟨[(1, (.int .i64 a_root)), (2, (.int .i64 a_a)), (3, (.int .i64 a_b)), (4, (.ptr 4 0))], [(4, .row 26 [(AV.list 1 eLI64 [] a_g.Succ .none), (AV.list 1 eLI64 [] a_g.Pred .none)])], []⟩ hq ?_; obtain ⟨x1, hx1, h⟩ := bind_some h; obtain ⟨hc2, h⟩ := Ab h; obtain ⟨x3, hx3, h⟩ := bind_some h; obtain ⟨hc4, h⟩ := Ab h; refine B5 [⟨[], [(20000, 11)], (AV.list 1 eB false x1 (.own 20000)), [(20000, .tok 1 4 x1.length)], []⟩, ⟨[], [], (AV.list 1 eB false x3 .none), [], []⟩] [] ⟨[(8, (.bool (bif (x1.getD (a_b).toNat false) then (!(x3.getD (a_b).toNat false)) else false)))], [], []⟩ [(Spec Try.prog 17 [(.agg (At a_g)), (.int .i64 a_root), (.int .i64 (-1 : Int))] [] (AV.list 1 eB false x1 (.own 20000)) [(20000, .tok 1 4 x1.length)]), (A4 a_b x1.length), ((Nw x1 a_b) = true → (Nw x1 a_b) = true), ((Nw x1 a_b) = true → (Nw x1 a_b) = true), ((Nw x1 a_b) = true → (Nw x1 a_b) = true), ((Nw x1 a_b) = true → (Spec Try.prog 17 [(.agg (At a_g)), (.int .i64 a_root), (.int .i64 a_a)] [] (AV.list 1 eB false x3 .none) [])), ((Nw x1 a_b) = true → (Nw x1 a_b) = true), ((Nw x1 a_b) = true → (Nw x1 a_b) = true), ((Nw x1 a_b) = true → (A4 a_b x3.length)), ((Nw x1 a_b) = true → (Nw x1 a_b) = true), ((Nw x1 a_b) = true → (Nw x1 a_b) = true), ((x1.getD (a_b).toNat false) = true → (Nw x1 a_b) = true)] hq ⟨(Eg a_g a_root (-1 : Int) x1 hx1), hc2, (fun hg => hg), (fun hg => hg), (fun hg => hg), (fun hg => (Spec.drop (Eg a_g a_root a_a x3 (Ak hg hx3)))), (fun hg => hg), (fun hg => hg), (fun hg => (hc4 hg)), (fun hg => hg), (fun hg => hg), gT, trivial⟩ ?_; refine Ao ?_; obtain rfl := OI h; exact ⟨.inl rfl, [], by kernel_rfl⟩
def Bq (a_g : TGraph) (a_p1 : Int) (i5 : Int) : (Bool × Int) → Option (LR (Bool × Int) Bool) :=
  fun ((b8, i9) : (Bool × Int)) => (bif (decide ((i9 : Int) < (a_g.Succ.length : Int))) then (Bw ((b8 == false) = true → (A4 i9 a_g.Succ.length)) ((bif (b8 == false) then Dc (a_g.Succ.getD (i9).toNat []) i5 else some false).bind fun x12 => ((bif ((b8 == false) && (x12 == true)) then C5 a_g (0 : Int) a_p1 i9 else some false).bind fun x13 => (some (.next ((bif b8 then true else (bif x12 then x13 else false)), (Bi (i9 + (1 : Int))))))))) else (some (.done b8)))
def Bs (a_g : TGraph) (a_p1 : Int) : (List (Int) × Int) → Option (LR (List (Int) × Int) (List (Int))) :=
  fun ((l4, i5) : (List (Int) × Int)) => (bif (decide ((i5 : Int) < (a_g.Succ.length : Int))) then (Option.bind (α := List (Int)) ((Aw (S := (Bool × Int)) (X := Bool) (Bq a_g a_p1 i5) (false, (0 : Int))).bind (fun x14 => (((bif ((x14 == true) && (((i5 : Int) == a_p1) == false)) then C5 a_g (0 : Int) a_p1 i5 else some false).bind fun x16 => (bif (bif x14 then (bif ((i5 : Int) == a_p1) then true else (!x16)) else false) then (Bw (l4.length + ([i5] : List (Int)).length ≤ room) (some ((l4 ++ ([i5] : List (Int)))))) else (some (l4))))))) (fun x18 => ((some (.next (x18, (Bi (i5 + (1 : Int))))))))) else (some (.done l4)))
def Kg (a_p1 : Int) : AV := (.int .i64 a_p1)
def Tj (i5 : Int) := ([i5] : List (Int))
def Q374 (x1 : Bool) (a_p1 : Int) (a_g : TGraph) := (bif (bif (!x1) then true else (decide ((a_p1 : Int) < (0 : Int)))) then true else (decide (((a_g.Succ.length : Int) : Int) ≤ a_p1)))
def R8 (x1 : Bool) (a_p1 : Int) (a_g : TGraph) := ((Q374 x1 a_p1 a_g) == false)
def Aaa (b8 : Bool) (x12 : Bool) := ((b8 == false) && (x12 == true))
def Tq (l4 : List (Int)) : AV := (AV.list 1 Ad (0 : Int) l4 (.own 5005))
def Td : AV := (AV.list 1 Ad (0 : Int) ([] : List Int) .exact)
def Ws (x14 : Bool) (i5 : Int) (a_p1 : Int) := ((x14 == true) && (((i5 : Int) == a_p1) == false))
def Wf (a_g : TGraph) : List AV := [(AV.list 1 eLI64 [] a_g.Succ .none), (AV.list 1 eLI64 [] a_g.Pred .none)]
def S8 (a_g : TGraph) (l4 : List (Int)) : List (Nat × Own) := [(2, .row 26 (Wf a_g)), (5005, .tok 1 3 l4.length)]
def Yv (x1 : Bool) (a_p1 : Int) := ((bif (!x1) then true else (decide ((a_p1 : Int) < (0 : Int)))) == false)
def Q383 := (⟨[(4, (AV.list 1 Ad (0 : Int) ([] : List Int) (.own 6004)))], [(6004, .tok 1 3 (([] : List Int).length))], []⟩ : St)
def Da (a_g : TGraph) (a_p1 : Int) : Option (List (Int)) :=
  ((Ej a_g).bind fun x1 => ((bif ((bif (bif (!x1) then true else (decide ((a_p1 : Int) < (0 : Int)))) then true else (decide (((a_g.Succ.length : Int) : Int) ≤ a_p1))) == false) then Bp a_g (0 : Int) (-1 : Int) else some []).bind fun x2 => (Bw (((bif (bif (!x1) then true else (decide ((a_p1 : Int) < (0 : Int)))) then true else (decide (((a_g.Succ.length : Int) : Int) ≤ a_p1))) == false) = true → (A4 a_p1 x2.length)) (bif (bif (bif (bif (!x1) then true else (decide ((a_p1 : Int) < (0 : Int)))) then true else (decide (((a_g.Succ.length : Int) : Int) ≤ a_p1))) then true else (!(x2.getD (a_p1).toNat false))) then (some ([] : List Int)) else ((Aw (S := (List (Int) × Int)) (X := List (Int)) (Bs a_g a_p1) (([] : List Int), (0 : Int))).bind (fun x20 => ((some x20))))))))
theorem Hg (a_g : TGraph) (a_p1 : Int) (r : List (Int)) (h : Da a_g a_p1 = some r) : Spec Try.prog 14 [(.agg (At a_g)), (.int .i64 a_p1)] [] (AV.list 1 Ad (0 : Int) r (.own 20000)) [(20000, .tok 1 3 r.length)] := by
  refine Ap (fn := Try.f14) Try.func14 rfl rfl (by kernel_rfl) (fun Γ hn hΓ => ?_); have hq : RgQ Try.prog Γ 79 [] := ⟨hn, mix, hΓ⟩; unfold Da at h; refine B5 [] [(4, Td)] ⟨[(1, (Kg a_p1)), (2, (.ptr 2 0))], [(2, .row 26 (Wf a_g))], []⟩ [(AVle (.slice 0 0 (fun _ => []) .exact) Td)] hq ⟨Cs, trivial⟩ ?_; refine B5 [] [(5, Td)] ⟨[(1, (Kg a_p1)), (2, (.ptr 2 0)), (5, Td)], [(2, .row 26 (Wf a_g))], []⟩ [(AVle (.slice 0 0 (fun _ => []) .exact) Td)] hq ⟨Cs, trivial⟩ ?_; refine Ac ?_; obtain ⟨x1, hx1, h⟩ := bind_some h; obtain ⟨x2, hx2, h⟩ := bind_some h; obtain ⟨hc3, h⟩ := Ab h; refine B5 [⟨[], [], (.bool x1), [], []⟩, ⟨[], [], (AV.list 1 eB false x2 .none), [], []⟩] [] ⟨[(1, (Kg a_p1)), (2, (.ptr 2 0)), (5, Td), (30, (.bool (bif (Q374 x1 a_p1 a_g) then true else (!(x2.getD (a_p1).toNat false)))))], [(2, .row 26 (Wf a_g))], []⟩ [(Spec Try.prog 28 [(.agg (At a_g))] [] (.bool x1) []), (((!x1) == false) = true → ((!x1) == false) = true), ((!x1) = false → ((!x1) == false) = true), ((Yv x1 a_p1) = true → (Yv x1 a_p1) = true), ((Yv x1 a_p1) = true → (Yv x1 a_p1) = true), ((Yv x1 a_p1) = true → (Yv x1 a_p1) = true), ((Yv x1 a_p1) = true → (Yv x1 a_p1) = true), ((bif (!x1) then true else (decide ((a_p1 : Int) < (0 : Int)))) = false → (Yv x1 a_p1) = true), ((R8 x1 a_p1 a_g) = true → (R8 x1 a_p1 a_g) = true), ((R8 x1 a_p1 a_g) = true → (Spec Try.prog 17 [(.agg (At a_g)), (.int .i64 (0 : Int)), (.int .i64 (-1 : Int))] [] (AV.list 1 eB false x2 .none) [])), ((R8 x1 a_p1 a_g) = true → (R8 x1 a_p1 a_g) = true), ((R8 x1 a_p1 a_g) = true → (R8 x1 a_p1 a_g) = true), ((R8 x1 a_p1 a_g) = true → (A4 a_p1 x2.length)), ((R8 x1 a_p1 a_g) = true → (R8 x1 a_p1 a_g) = true), ((R8 x1 a_p1 a_g) = true → (R8 x1 a_p1 a_g) = true), ((Q374 x1 a_p1 a_g) = false → (R8 x1 a_p1 a_g) = true)] hq ⟨(Je a_g x1 hx1), (fun hg => hg), gF, (fun hg => hg), (fun hg => hg), (fun hg => hg), (fun hg => hg), gF, (fun hg => hg), (fun hg => (Spec.drop (Eg a_g (0 : Int) (-1 : Int) x2 (Ak hg hx2)))), (fun hg => hg), (fun hg => hg), (fun hg => (hc3 hg)), (fun hg => hg), (fun hg => hg), gF, trivial⟩ ?_; refine Ai (bif (Q374 x1 a_p1 a_g) then true else (!(x2.getD (a_p1).toNat false))) (by kernel_rfl) (fun hb => ?_) (fun hb => ?_)
  · replace h := Ak hb h; clear hb; refine B5 [] [(4, Td)] ⟨[(4, Td)], [], []⟩ [(AVle (.slice 0 0 (fun _ => []) .exact) Td)] hq ⟨Cs, trivial⟩ ?_; refine Af (st' := Q383) (Le.trans (Ed (st' := ⟨[(4, Td)], [], []⟩) [4] [] hq) (Le.trans (In (t := 4) (nm := 6004) (sz' := 1) (fun i => Ad (([] : List Int).getD i (0 : Int))) 3 rfl rfl (.inl ⟨rfl, rfl⟩) (fun h_ => absurd h_ (by decide))) (Ed (st' := Q383) [4] [6004] hq))) ?_; refine Ao ?_; refine Ay ?_; obtain rfl := OI h; exact ⟨.inl rfl, [(6004, 20000)], by kernel_rfl⟩
  · replace h := Ar hb h; clear hb; refine Ag ?_; refine Aa ?_; refine Ac ?_; refine Aq ⟨[(1, (Kg a_p1)), (2, (.ptr 2 0)), (5, Td), (6, (.int .i64 (0 : Int)))], [(2, .row 26 (Wf a_g))], []⟩ hq ?_; refine Ah ?_; refine Af (st' := (fun ((l4, i5) : (List (Int) × Int)) => (⟨[(1, (Kg a_p1)), (2, (.ptr 2 0)), (5, (Tq l4)), (6, (.int .i64 i5))], (S8 a_g l4), []⟩ : St)) (([] : List Int), (0 : Int))) (Le.trans (Ed (st' := ⟨[(1, (Kg a_p1)), (2, (.ptr 2 0)), (5, Td), (6, (.int .i64 (0 : Int)))], [(2, .row 26 (Wf a_g))], []⟩) [1, 2, 5, 6] [2] hq) (Le.trans (In (t := 5) (nm := 5005) (sz' := 1) (fun i => Ad (([] : List Int).getD i (0 : Int))) 3 rfl rfl (.inl ⟨rfl, rfl⟩) (fun h_ => absurd h_ (by decide))) (Ed (st' := ⟨[(1, (Kg a_p1)), (2, (.ptr 2 0)), (5, (AV.list 1 Ad (0 : Int) ([] : List Int) (.own 5005))), (6, (.int .i64 (0 : Int)))], [(2, .row 26 (Wf a_g)), (5005, .tok 1 3 (([] : List Int).length))], []⟩) [1, 2, 5, 6] [2, 5005] hq))) ?_; obtain ⟨x20, hx20, h⟩ := bind_some h; refine A2 (fun ((l4, i5) : (List (Int) × Int)) => (⟨[(1, (Kg a_p1)), (2, (.ptr 2 0)), (5, (Tq l4)), (6, (.int .i64 i5))], (S8 a_g l4), []⟩ : St)) _ (fun (l6 : List (Int)) (e : Exit) (st : St) => e = (.exit 0) ∧ Le Γ st (⟨[(5, (AV.list 1 Ad (0 : Int) l6 (.own 5005)))], [(5005, .tok 1 3 l6.length)], []⟩ : St)) ?_ hx20 ?_
    · rintro ⟨l4, i5⟩ y h; unfold Bs at h; refine Ac ?_; refine Aq ⟨[(1, (Kg a_p1)), (2, (.ptr 2 0)), (5, (Tq l4)), (6, (.int .i64 i5)), (35, (.bool (decide ((i5 : Int) < (a_g.Succ.length : Int)))))], (S8 a_g l4), []⟩ hq ?_; refine Ai (decide ((i5 : Int) < (a_g.Succ.length : Int))) (by kernel_rfl) (fun hb => ?_) (fun hb => ?_)
      · replace h := Ak hb h; clear hb; refine Ag ?_; refine Aa ?_; refine Ac ?_; obtain ⟨x18, hx18, h⟩ := bind_some h; refine E7 (fun (l7 : List (Int)) (e : Exit) (st : St) => e = .normal ∧ Le Γ st (⟨[(1, (Kg a_p1)), (2, (.ptr 2 0)), (5, (AV.list 1 Ad (0 : Int) l7 (.own 5005))), (6, (.int .i64 i5))], [(2, .row 26 (Wf a_g)), (5005, .tok 1 3 l7.length)], []⟩ : St)) hx18 ?_ ?_
        · clear h hx18; intro y h; refine Ah ?_; refine Aq ⟨[(1, (Kg a_p1)), (2, (.ptr 2 0)), (5, (Tq l4)), (6, (.int .i64 i5)), (7, (.bool false))], (S8 a_g l4), []⟩ hq ?_; refine Ac ?_; refine Aq ⟨[(1, (Kg a_p1)), (2, (.ptr 2 0)), (5, (Tq l4)), (6, (.int .i64 i5)), (7, (.bool false)), (8, (.int .i64 (0 : Int)))], (S8 a_g l4), []⟩ hq ?_; refine Ah ?_; refine Af (st' := (fun ((b8, i9) : (Bool × Int)) => (⟨[(1, (Kg a_p1)), (2, (.ptr 2 0)), (5, (Tq l4)), (6, (.int .i64 i5)), (7, (.bool b8)), (8, (.int .i64 i9))], (S8 a_g l4), []⟩ : St)) (false, (0 : Int))) (Le.refl _ _) ?_; obtain ⟨x14, hx14, h⟩ := bind_some h; refine A2 (fun ((b8, i9) : (Bool × Int)) => (⟨[(1, (Kg a_p1)), (2, (.ptr 2 0)), (5, (Tq l4)), (6, (.int .i64 i5)), (7, (.bool b8)), (8, (.int .i64 i9))], (S8 a_g l4), []⟩ : St)) _ (fun (b10 : Bool) (e : Exit) (st : St) => e = (.exit 2) ∧ Le Γ st (⟨[(1, (Kg a_p1)), (2, (.ptr 2 0)), (5, (Tq l4)), (6, (.int .i64 i5)), (7, (.bool b10))], (S8 a_g l4), []⟩ : St)) ?_ hx14 ?_
          · rintro ⟨b8, i9⟩ y h; unfold Bq at h; refine Ac ?_; refine Aq ⟨[(1, (Kg a_p1)), (2, (.ptr 2 0)), (5, (Tq l4)), (6, (.int .i64 i5)), (7, (.bool b8)), (8, (.int .i64 i9)), (42, (.bool (decide ((i9 : Int) < (a_g.Succ.length : Int)))))], (S8 a_g l4), []⟩ hq ?_; refine Ai (decide ((i9 : Int) < (a_g.Succ.length : Int))) (by kernel_rfl) (fun hb => ?_) (fun hb => ?_)
            · replace h := Ak hb h; clear hb; refine Ag ?_; refine Aa ?_; refine Ac ?_; refine Ah ?_; obtain ⟨hc11, h⟩ := Ab h; obtain ⟨x12, hx12, h⟩ := bind_some h; obtain ⟨x13, hx13, h⟩ := bind_some h; refine rg [⟨[], [], (.bool x12), [], []⟩, ⟨[], [], (.bool x13), [], []⟩] [] ⟨[(1, (Kg a_p1)), (2, (.ptr 2 0)), (5, (Tq l4)), (6, (.int .i64 i5)), (7, (.bool (bif b8 then true else (bif x12 then x13 else false)))), (8, (.int .i64 i9))], (S8 a_g l4), []⟩ [((b8 == false) = true → (b8 == false) = true), ((b8 == false) = true → (b8 == false) = true), ((b8 == false) = true → (b8 == false) = true), ((b8 == false) = true → (A4 i9 a_g.Succ.length)), ((b8 == false) = true → (b8 == false) = true), ((b8 == false) = true → (b8 == false) = true), ((b8 == false) = true → (b8 == false) = true), ((b8 == false) = true → (Spec Try.prog 18 [(AV.list 1 Ad (0 : Int) (a_g.Succ.getD (i9).toNat []) .none), (.int .i64 i5)] [] (.bool x12) [])), ((b8 == false) = true → (b8 == false) = true), ((Aaa b8 x12) = true → (Aaa b8 x12) = true), ((Aaa b8 x12) = true → (Aaa b8 x12) = true), ((Aaa b8 x12) = true → (Aaa b8 x12) = true), ((Aaa b8 x12) = true → (Spec Try.prog 29 [(.agg (At a_g)), (.int .i64 (0 : Int)), (Kg a_p1), (.int .i64 i9)] [] (.bool x13) [])), ((b8 == false) = true → (b8 == false) = true), ((b8 == false) = true → (x12 = true → (Aaa b8 x12) = true)), (b8 = false → (b8 == false) = true)] hq ⟨(fun hg => hg), (fun hg => hg), (fun hg => hg), (fun hg => (hc11 hg)), (fun hg => hg), (fun hg => hg), (fun hg => hg), (fun hg => (Gv (a_g.Succ.getD (i9).toNat []) i5 x12 (Ak hg hx12))), (fun hg => hg), (fun hg => hg), (fun hg => hg), (fun hg => hg), (fun hg => (Ii a_g (0 : Int) a_p1 i9 x13 (Ak hg hx13))), (fun hg => hg), (fun hg => (aT hg)), gF, trivial⟩ ?_; refine Aj ?_; refine Aa ?_; refine Jt ⟨[(1, (Kg a_p1)), (2, (.ptr 2 0)), (5, (Tq l4)), (6, (.int .i64 i5)), (7, (.bool (bif b8 then true else (bif x12 then x13 else false)))), (8, (.int .i64 (Bi (i9 + (1 : Int)))))], (S8 a_g l4), []⟩ hq ?_; obtain rfl := OI h; exact ⟨rfl, Le.refl _ _⟩
            · replace h := Ar hb h; clear hb; refine A3 ?_; refine Az ?_; obtain rfl := OI h; exact ⟨(by intro hh; cases hh), rfl, Ed [1, 2, 5, 6, 7] [2, 5005] hq⟩
          · clear hx14; rintro e st' ⟨rfl, hl15⟩; refine Au ?_; refine Aa ?_; refine Af hl15 ?_; obtain ⟨x16, hx16, h⟩ := bind_some h; refine B5 [⟨[], [], (.bool x16), [], []⟩] [] ⟨[(1, (Kg a_p1)), (2, (.ptr 2 0)), (5, (Tq l4)), (6, (.int .i64 i5)), (73, (.bool (bif x14 then (bif ((i5 : Int) == a_p1) then true else (!x16)) else false)))], (S8 a_g l4), []⟩ [((x14 == true) = true → (x14 == true) = true), ((x14 == true) = true → (x14 == true) = true), ((x14 == true) = true → (x14 == true) = true), ((Ws x14 i5 a_p1) = true → (Ws x14 i5 a_p1) = true), ((Ws x14 i5 a_p1) = true → (Ws x14 i5 a_p1) = true), ((Ws x14 i5 a_p1) = true → (Ws x14 i5 a_p1) = true), ((Ws x14 i5 a_p1) = true → (Spec Try.prog 29 [(.agg (At a_g)), (.int .i64 (0 : Int)), (Kg a_p1), (.int .i64 i5)] [] (.bool x16) [])), ((Ws x14 i5 a_p1) = true → (Ws x14 i5 a_p1) = true), ((x14 == true) = true → (x14 == true) = true), ((x14 == true) = true → (((i5 : Int) == a_p1) = false → (Ws x14 i5 a_p1) = true)), (x14 = true → (x14 == true) = true)] hq ⟨(fun hg => hg), (fun hg => hg), (fun hg => hg), (fun hg => hg), (fun hg => hg), (fun hg => hg), (fun hg => (Ii a_g (0 : Int) a_p1 i5 x16 (Ak hg hx16))), (fun hg => hg), (fun hg => hg), (fun hg => (aF hg)), gT, trivial⟩ ?_; refine Ai (bif x14 then (bif ((i5 : Int) == a_p1) then true else (!x16)) else false) (by kernel_rfl) (fun hb => ?_) (fun hb => ?_)
            · replace h := Ak hb h; clear hb; obtain ⟨hc17, h⟩ := Ab h; refine rg [] [(76, (AV.list 1 Ad (0 : Int) (Tj i5) .exact)), (77, (AV.list 1 Ad (0 : Int) (l4 ++ (Tj i5)) (.own 5005)))] ⟨[(1, (Kg a_p1)), (2, (.ptr 2 0)), (5, (AV.list 1 Ad (0 : Int) (l4 ++ (Tj i5)) (.own 5005))), (6, (.int .i64 i5))], [(2, .row 26 (Wf a_g)), (5005, .tok 1 3 ((l4 ++ (Tj i5)).length))], []⟩ [(AVle (.slice 1 1 (fun i => ([[(.int .i64 i5)]] : List (List AV)).getD i []) .exact) (AV.list 1 Ad (0 : Int) (Tj i5) .exact)), (l4.length = l4.length), (l4.length + (Tj i5).length ≤ room), (AVle (.slice 1 (l4.length + (Tj i5).length) (Ff l4.length (fun i => Ad (l4.getD i (0 : Int))) (fun i => Ad ((Tj i5).getD i (0 : Int)))) (.own 5005)) (AV.list 1 Ad (0 : Int) (l4 ++ (Tj i5)) (.own 5005))), (l4.length + (Tj i5).length = (l4 ++ (Tj i5)).length)] hq ⟨(Em rfl (fun i hi => Ea (e := Ad) (d := (0 : Int)) (Tj i5) i hi)), rfl, hc17, Ic, (Du _ _), trivial⟩ ?_; refine Aj ?_; obtain rfl := OI h; exact ⟨rfl, Le.refl _ _⟩
            · replace h := Ar hb h; clear hb; refine Ag ?_; refine Aj ?_; obtain rfl := OI h; exact ⟨rfl, Ed [1, 2, 5, 6] [2, 5005] hq⟩
        · clear hx18; rintro e st' ⟨rfl, hl19⟩; refine Aa ?_; refine Af hl19 ?_; refine Jt ⟨[(1, (Kg a_p1)), (2, (.ptr 2 0)), (5, (AV.list 1 Ad (0 : Int) x18 (.own 5005))), (6, (.int .i64 (Bi (i5 + (1 : Int)))))], [(2, .row 26 (Wf a_g)), (5005, .tok 1 3 x18.length)], []⟩ hq ?_; obtain rfl := OI h; exact ⟨rfl, Le.refl _ _⟩
      · replace h := Ar hb h; clear hb; refine A3 ?_; refine Az ?_; obtain rfl := OI h; exact ⟨(by intro hh; cases hh), rfl, Ed [5] [5005] hq⟩
    · clear hx20; rintro e st' ⟨rfl, hl21⟩; refine Au ?_; refine Aa ?_; refine Af hl21 ?_; refine Aq ⟨[(4, (AV.list 1 Ad (0 : Int) x20 (.own 5005)))], [(5005, .tok 1 3 x20.length)], []⟩ hq ?_; refine Ao ?_; obtain rfl := OI h; exact ⟨.inl rfl, [(5005, 20000)], by kernel_rfl⟩
def Do (a_p2 : Int) (x11 : List (TDep)) : (List (TDep) × Int) → Option (LR (List (TDep) × Int) (List (TDep))) :=
  fun ((l12, i13) : (List (TDep) × Int)) => (bif (decide ((i13 : Int) < (x11.length : Int))) then (Option.bind (α := List (TDep)) (Bw (A4 i13 x11.length) (bif (((x11.getD (i13).toNat (default : TDep)).Block : Int) == a_p2) then (Bw (A4 i13 x11.length) (Bw (l12.length + ([(x11.getD (i13).toNat (default : TDep))] : List (TDep)).length ≤ room) (some ((l12 ++ ([(x11.getD (i13).toNat (default : TDep))] : List (TDep))))))) else (some (l12)))) (fun x19 => ((some (.next (x19, (Bi (i13 + (1 : Int))))))))) else (some (.done l12)))
def Jx (a_p2 : Int) : AV := (.int .i64 a_p2)
def M3 (x6 : Bool) := ((!x6) == false)
def Gk := (default : TDep)
def Yl (a_p1 : List (List (Int))) : AV := (AV.list 1 eLI64 [] a_p1 .none)
def Ta (a_succ : List (List (Int))) : AV := (AV.list 1 eLI64 [] a_succ .none)
def O5 (x24 : Bool) (x26 : Bool) := ((bif x24 then x26 else false) == true)
def Aaw (a_succ : List (List (Int))) := (decide (((16 : Int) : Int) < (a_succ.length : Int)))
def Ze (a_succ : List (List (Int))) (x2 : Bool) := (bif (Aaw a_succ) then true else (!x2))
def Vw (x11 : List (TDep)) : AV := (AV.list 3 Ax Gk x11 (.own 55))
def Q396 (l12 : List (TDep)) : AV := (AV.list 3 Ax Gk l12 (.own 5010))
def Ts (x11 : List (TDep)) (i13 : Int) := ([(x11.getD (i13).toNat Gk)] : List (TDep))
def Q392 : AV := (AV.list 3 Ax Gk ([] : List TDep) .exact)
def U1 (x10 : (TGraph × Int)) : List AV := [(AV.list 1 eLI64 [] x10.1.Succ .none), (AV.list 1 eLI64 [] x10.1.Pred .none)]
def Q399 (x10 : (TGraph × Int)) (x11 : List (TDep)) (l12 : List (TDep)) : List (Nat × Own) := [(8, .row 26 (U1 x10)), (55, .tok 3 37 x11.length), (5010, .tok 3 37 l12.length)]
def Q400 (a_p2 : Int) (x11 : List (TDep)) (x10 : (TGraph × Int)) := (⟨[(2, (Jx a_p2)), (8, (.ptr 8 0)), (10, Q392), (11, (Vw x11)), (12, (.int .i64 (0 : Int)))], [(8, .row 26 (U1 x10)), (55, .tok 3 37 x11.length)], []⟩ : St)
def E8 (a_succ : List (List (Int))) (a_p1 : List (List (Int))) (a_p2 : Int) : Option Bool :=
  ((Ep).bind fun x1 => (bif (!x1) then (some false) else ((bif ((decide (((16 : Int) : Int) < (a_succ.length : Int))) == false) then Dw a_succ else some false).bind fun x2 => ((bif ((bif (decide (((16 : Int) : Int) < (a_succ.length : Int))) then true else (!x2)) == false) then Dw a_p1 else some false).bind fun x3 => (bif (bif (bif (decide (((16 : Int) : Int) < (a_succ.length : Int))) then true else (!x2)) then true else (!x3)) then (some true) else ((Ha (⟨a_succ, a_p1⟩ : TGraph)).bind fun x4 => ((Ek (⟨a_succ, a_p1⟩ : TGraph)).bind fun x5 => ((Cm x4 x5).bind fun x6 => ((bif ((!x6) == false) then E3 (⟨a_succ, a_p1⟩ : TGraph) a_p2 else some []).bind fun x7 => ((bif ((!x6) == false) then Da (⟨a_succ, a_p1⟩ : TGraph) a_p2 else some []).bind fun x8 => ((bif ((!x6) == false) then Be x7 x8 else some false).bind fun x9 => (bif (bif (!x6) then true else (!x9)) then (some false) else ((Fa a_succ).bind fun x10 => (bif ((x10.2 : Int) != (0 : Int)) then (some true) else ((Ek x10.1).bind fun x11 => ((Aw (S := (List (TDep) × Int)) (X := List (TDep)) (Do a_p2 x11) (([] : List TDep), (0 : Int))).bind (fun x21 => (((Ha x10.1).bind fun x23 => ((Cm x23 x11).bind fun x24 => ((bif (x24 == true) then Ke x10.1 a_p2 else some []).bind fun x25 => ((bif (x24 == true) then Cm x25 x21 else some false).bind fun x26 => ((bif ((bif x24 then x26 else false) == true) then E3 x10.1 a_p2 else some []).bind fun x27 => ((bif ((bif x24 then x26 else false) == true) then Da x10.1 a_p2 else some []).bind fun x28 => ((bif ((bif x24 then x26 else false) == true) then Be x27 x28 else some false).bind fun x29 => (some (bif (bif x24 then x26 else false) then x29 else false)))))))))))))))))))))))))))
theorem ok_locksteplaw09_DepAll (a_succ : List (List (Int))) (a_p1 : List (List (Int))) (a_p2 : Int) (r : Bool) (h : E8 a_succ a_p1 a_p2 = some r) : Spec Try.prog 3 [(AV.list 1 eLI64 [] a_succ .none), (AV.list 1 eLI64 [] a_p1 .none), (.int .i64 a_p2)] [] (.bool r) [] := by
  refine Ap (fn := Try.f3) Try.func3 rfl rfl (by kernel_rfl) (fun Γ hn hΓ => ?_); have hq : RgQ Try.prog Γ 96 [] := ⟨hn, mix, hΓ⟩; unfold E8 at h; refine Aq ⟨[(0, (Ta a_succ)), (1, (Yl a_p1)), (2, (Jx a_p2))], [], []⟩ hq ?_; refine Ac ?_; obtain ⟨x1, hx1, h⟩ := bind_some h; refine B5 [⟨[], [], (.bool x1), [], []⟩] [] ⟨[(0, (Ta a_succ)), (1, (Yl a_p1)), (2, (Jx a_p2)), (14, (.bool (!x1)))], [], []⟩ [(Spec Try.prog 7 [] [] (.bool x1) [])] hq ⟨(Mo  x1 hx1), trivial⟩ ?_; refine Ai (!x1) (by kernel_rfl) (fun hb => ?_) (fun hb => ?_)
  · replace h := Ak hb h; clear hb; refine Aq ⟨[(6, (.bool false))], [], []⟩ hq ?_; refine Ao ?_; refine Ay ?_; obtain rfl := OI h; exact ⟨.inl rfl, [], by kernel_rfl⟩
  · replace h := Ar hb h; clear hb; refine Ag ?_; refine Aa ?_; refine Ac ?_; obtain ⟨x2, hx2, h⟩ := bind_some h; obtain ⟨x3, hx3, h⟩ := bind_some h; refine B5 [⟨[], [], (.bool x2), [], []⟩, ⟨[], [], (.bool x3), [], []⟩] [] ⟨[(0, (Ta a_succ)), (1, (Yl a_p1)), (2, (Jx a_p2)), (27, (.bool (bif (Ze a_succ x2) then true else (!x3))))], [], []⟩ [(((Aaw a_succ) == false) = true → ((Aaw a_succ) == false) = true), (((Aaw a_succ) == false) = true → (Spec Try.prog 8 [(Ta a_succ)] [] (.bool x2) [])), (((Aaw a_succ) == false) = true → ((Aaw a_succ) == false) = true), ((Aaw a_succ) = false → ((Aaw a_succ) == false) = true), (((Ze a_succ x2) == false) = true → ((Ze a_succ x2) == false) = true), (((Ze a_succ x2) == false) = true → (Spec Try.prog 8 [(Yl a_p1)] [] (.bool x3) [])), (((Ze a_succ x2) == false) = true → ((Ze a_succ x2) == false) = true), ((Ze a_succ x2) = false → ((Ze a_succ x2) == false) = true)] hq ⟨(fun hg => hg), (fun hg => (H8 a_succ x2 (Ak hg hx2))), (fun hg => hg), gF, (fun hg => hg), (fun hg => (H8 a_p1 x3 (Ak hg hx3))), (fun hg => hg), gF, trivial⟩ ?_; refine Ai (bif (Ze a_succ x2) then true else (!x3)) (by kernel_rfl) (fun hb => ?_) (fun hb => ?_)
    · replace h := Ak hb h; clear hb; refine Aq ⟨[(6, (.bool true))], [], []⟩ hq ?_; refine Ao ?_; refine Ay ?_; obtain rfl := OI h; exact ⟨.inl rfl, [], by kernel_rfl⟩
    · replace h := Ar hb h; clear hb; refine Ag ?_; refine Aa ?_; refine Aq ⟨[(0, (Ta a_succ)), (2, (Jx a_p2)), (7, (.ptr 7 0))], [(7, .row 26 [(Ta a_succ), (Yl a_p1)])], []⟩ hq ?_; refine Ac ?_; obtain ⟨x4, hx4, h⟩ := bind_some h; obtain ⟨x5, hx5, h⟩ := bind_some h; obtain ⟨x6, hx6, h⟩ := bind_some h; obtain ⟨x7, hx7, h⟩ := bind_some h; obtain ⟨x8, hx8, h⟩ := bind_some h; obtain ⟨x9, hx9, h⟩ := bind_some h; refine B5 [⟨[], [(20000, 32)], (AV.list 3 Ax Gk x4 (.own 20000)), [(20000, .tok 3 37 x4.length)], []⟩, ⟨[], [(20000, 34)], (AV.list 3 Ax Gk x5 (.own 20000)), [(20000, .tok 3 37 x5.length)], []⟩, ⟨[], [], (.bool x6), [], []⟩, ⟨[], [], (AV.list 1 Ad (0 : Int) x7 .none), [], []⟩, ⟨[], [], (AV.list 1 Ad (0 : Int) x8 .none), [], []⟩, ⟨[], [], (.bool x9), [], []⟩] [] ⟨[(0, (Ta a_succ)), (2, (Jx a_p2)), (46, (.bool (bif (!x6) then true else (!x9))))], [], []⟩ [(Spec Try.prog 10 [(.agg [(Ta a_succ), (Yl a_p1)])] [] (AV.list 3 Ax Gk x4 (.own 20000)) [(20000, .tok 3 37 x4.length)]), (Spec Try.prog 11 [(.agg [(Ta a_succ), (Yl a_p1)])] [] (AV.list 3 Ax Gk x5 (.own 20000)) [(20000, .tok 3 37 x5.length)]), (Spec Try.prog 9 [(AV.list 3 Ax Gk x4 .none), (AV.list 3 Ax Gk x5 .none)] [] (.bool x6) []), ((M3 x6) = true → (M3 x6) = true), ((M3 x6) = true → (M3 x6) = true), ((M3 x6) = true → (Spec Try.prog 13 [(.agg [(Ta a_succ), (Yl a_p1)]), (Jx a_p2)] [] (AV.list 1 Ad (0 : Int) x7 .none) [])), ((M3 x6) = true → (M3 x6) = true), ((M3 x6) = true → (M3 x6) = true), ((M3 x6) = true → (Spec Try.prog 14 [(.agg [(Ta a_succ), (Yl a_p1)]), (Jx a_p2)] [] (AV.list 1 Ad (0 : Int) x8 .none) [])), ((M3 x6) = true → (M3 x6) = true), ((M3 x6) = true → (M3 x6) = true), ((M3 x6) = true → (Spec Try.prog 12 [(AV.list 1 Ad (0 : Int) x7 .none), (AV.list 1 Ad (0 : Int) x8 .none)] [] (.bool x9) [])), ((M3 x6) = true → (M3 x6) = true), ((!x6) = false → (M3 x6) = true)] hq ⟨(Mk (⟨a_succ, a_p1⟩ : TGraph) x4 hx4), (I9 (⟨a_succ, a_p1⟩ : TGraph) x5 hx5), (Gq x4 x5 x6 hx6), (fun hg => hg), (fun hg => hg), (fun hg => (Spec.drop (Jp (⟨a_succ, a_p1⟩ : TGraph) a_p2 x7 (Ak hg hx7)))), (fun hg => hg), (fun hg => hg), (fun hg => (Spec.drop (Hg (⟨a_succ, a_p1⟩ : TGraph) a_p2 x8 (Ak hg hx8)))), (fun hg => hg), (fun hg => hg), (fun hg => (Er x7 x8 x9 (Ak hg hx9))), (fun hg => hg), gF, trivial⟩ ?_; refine Ai (bif (!x6) then true else (!x9)) (by kernel_rfl) (fun hb => ?_) (fun hb => ?_)
      · replace h := Ak hb h; clear hb; refine Aq ⟨[(6, (.bool false))], [], []⟩ hq ?_; refine Ao ?_; refine Ay ?_; obtain rfl := OI h; exact ⟨.inl rfl, [], by kernel_rfl⟩
      · replace h := Ar hb h; clear hb; refine Ag ?_; refine Aa ?_; obtain ⟨x10, hx10, h⟩ := bind_some h; refine B5 [⟨[], [], (.tuple [(.agg (At x10.1)), (.int .i64 x10.2)]), [], []⟩] [] ⟨[(2, (Jx a_p2)), (8, (.ptr 8 0)), (9, (.int .i64 x10.2))], [(8, .row 26 (U1 x10))], []⟩ [(Spec Try.prog 15 [(Ta a_succ)] [] (.tuple [(.agg (At x10.1)), (.int .i64 x10.2)]) [])] hq ⟨(I6 a_succ x10 hx10), trivial⟩ ?_; refine Ac ?_; refine Aq ⟨[(2, (Jx a_p2)), (8, (.ptr 8 0)), (53, (.bool ((x10.2 : Int) != (0 : Int))))], [(8, .row 26 (U1 x10))], []⟩ hq ?_; refine Ai ((x10.2 : Int) != (0 : Int)) (by kernel_rfl) (fun hb => ?_) (fun hb => ?_)
        · replace h := Ak hb h; clear hb; refine Aq ⟨[(6, (.bool true))], [], []⟩ hq ?_; refine Ao ?_; refine Ay ?_; obtain rfl := OI h; exact ⟨.inl rfl, [], by kernel_rfl⟩
        · replace h := Ar hb h; clear hb; refine Ag ?_; refine Aa ?_; refine B5 [] [(10, Q392)] ⟨[(2, (Jx a_p2)), (8, (.ptr 8 0)), (10, Q392)], [(8, .row 26 (U1 x10))], []⟩ [(AVle (.slice 0 0 (fun _ => []) .exact) Q392)] hq ⟨Cs, trivial⟩ ?_; obtain ⟨x11, hx11, h⟩ := bind_some h; refine B5 [⟨[], [(20000, 55)], (AV.list 3 Ax Gk x11 (.own 20000)), [(20000, .tok 3 37 x11.length)], []⟩] [] ⟨[(2, (Jx a_p2)), (8, (.ptr 8 0)), (10, Q392), (11, (Vw x11))], [(8, .row 26 (U1 x10)), (55, .tok 3 37 x11.length)], []⟩ [(Spec Try.prog 11 [(.agg (At x10.1))] [] (AV.list 3 Ax Gk x11 (.own 20000)) [(20000, .tok 3 37 x11.length)])] hq ⟨(I9 x10.1 x11 hx11), trivial⟩ ?_; refine Ac ?_; refine Aq (Q400 a_p2 x11 x10) hq ?_; refine Ah ?_; refine Af (st' := (fun ((l12, i13) : (List (TDep) × Int)) => (⟨[(2, (Jx a_p2)), (8, (.ptr 8 0)), (10, (Q396 l12)), (11, (Vw x11)), (12, (.int .i64 i13))], (Q399 x10 x11 l12), []⟩ : St)) (([] : List TDep), (0 : Int))) (Le.trans (Ed (st' := (Q400 a_p2 x11 x10)) [2, 8, 10, 11, 12] [8, 55] hq) (Le.trans (In (t := 10) (nm := 5010) (sz' := 3) (fun i => Ax (([] : List TDep).getD i Gk)) 37 rfl rfl (.inl ⟨rfl, rfl⟩) (fun h_ => absurd h_ (by decide))) (Ed (st' := ⟨[(2, (Jx a_p2)), (8, (.ptr 8 0)), (10, (AV.list 3 Ax Gk ([] : List TDep) (.own 5010))), (11, (Vw x11)), (12, (.int .i64 (0 : Int)))], [(8, .row 26 (U1 x10)), (55, .tok 3 37 x11.length), (5010, .tok 3 37 (([] : List TDep).length))], []⟩) [2, 8, 10, 11, 12] [8, 55, 5010] hq))) ?_; obtain ⟨x21, hx21, h⟩ := bind_some h; refine A2 (fun ((l12, i13) : (List (TDep) × Int)) => (⟨[(2, (Jx a_p2)), (8, (.ptr 8 0)), (10, (Q396 l12)), (11, (Vw x11)), (12, (.int .i64 i13))], (Q399 x10 x11 l12), []⟩ : St)) _ (fun (l14 : List (TDep)) (e : Exit) (st : St) => e = (.exit 0) ∧ Le Γ st (⟨[(2, (Jx a_p2)), (8, (.ptr 8 0)), (10, (AV.list 3 Ax Gk l14 (.own 5010))), (11, (Vw x11))], [(8, .row 26 (U1 x10)), (55, .tok 3 37 x11.length), (5010, .tok 3 37 l14.length)], []⟩ : St)) ?_ hx21 ?_
          · rintro ⟨l12, i13⟩ y h; unfold Do at h; refine Ac ?_; refine Aq ⟨[(2, (Jx a_p2)), (8, (.ptr 8 0)), (10, (Q396 l12)), (11, (Vw x11)), (12, (.int .i64 i13)), (59, (.bool (decide ((i13 : Int) < (x11.length : Int)))))], (Q399 x10 x11 l12), []⟩ hq ?_; refine Ai (decide ((i13 : Int) < (x11.length : Int))) (by kernel_rfl) (fun hb => ?_) (fun hb => ?_)
            · replace h := Ak hb h; clear hb; refine Ag ?_; refine Aa ?_; refine Ac ?_; obtain ⟨x19, hx19, h⟩ := bind_some h; refine E7 (fun (l15 : List (TDep)) (e : Exit) (st : St) => e = .normal ∧ Le Γ st (⟨[(2, (Jx a_p2)), (8, (.ptr 8 0)), (10, (AV.list 3 Ax Gk l15 (.own 5010))), (11, (Vw x11)), (12, (.int .i64 i13))], [(8, .row 26 (U1 x10)), (55, .tok 3 37 x11.length), (5010, .tok 3 37 l15.length)], []⟩ : St)) hx19 ?_ ?_
              · clear h hx19; intro y h; refine Ah ?_; obtain ⟨hc16, h⟩ := Ab h; refine B5 [] [] ⟨[(2, (Jx a_p2)), (8, (.ptr 8 0)), (10, (Q396 l12)), (11, (Vw x11)), (12, (.int .i64 i13)), (68, (.bool (((x11.getD (i13).toNat Gk).Block : Int) == a_p2)))], (Q399 x10 x11 l12), []⟩ [(A4 i13 x11.length)] hq ⟨hc16, trivial⟩ ?_; refine Ai (((x11.getD (i13).toNat Gk).Block : Int) == a_p2) (by kernel_rfl) (fun hb => ?_) (fun hb => ?_)
                · replace h := Ak hb h; clear hb; obtain ⟨hc17, h⟩ := Ab h; obtain ⟨hc18, h⟩ := Ab h; refine rg [] [(74, (AV.list 3 Ax Gk (Ts x11 i13) .exact)), (75, (AV.list 3 Ax Gk (l12 ++ (Ts x11 i13)) (.own 5010)))] ⟨[(2, (Jx a_p2)), (8, (.ptr 8 0)), (10, (AV.list 3 Ax Gk (l12 ++ (Ts x11 i13)) (.own 5010))), (11, (Vw x11)), (12, (.int .i64 i13))], [(8, .row 26 (U1 x10)), (55, .tok 3 37 x11.length), (5010, .tok 3 37 ((l12 ++ (Ts x11 i13)).length))], []⟩ [(A4 i13 x11.length), (AVle (.slice 3 1 (fun i => ([[(.int .i64 (x11.getD (i13).toNat Gk).Block), (.int .i64 (x11.getD (i13).toNat Gk).On), (.int .i64 (x11.getD (i13).toNat Gk).To)]] : List (List AV)).getD i []) .exact) (AV.list 3 Ax Gk (Ts x11 i13) .exact)), (l12.length = l12.length), (l12.length + (Ts x11 i13).length ≤ room), (AVle (.slice 3 (l12.length + (Ts x11 i13).length) (Ff l12.length (fun i => Ax (l12.getD i Gk)) (fun i => Ax ((Ts x11 i13).getD i Gk))) (.own 5010)) (AV.list 3 Ax Gk (l12 ++ (Ts x11 i13)) (.own 5010))), (l12.length + (Ts x11 i13).length = (l12 ++ (Ts x11 i13)).length)] hq ⟨hc17, (Em rfl (fun i hi => Ea (e := Ax) (d := Gk) (Ts x11 i13) i hi)), rfl, hc18, Ic, (Du _ _), trivial⟩ ?_; refine Aj ?_; obtain rfl := OI h; exact ⟨rfl, Le.refl _ _⟩
                · replace h := Ar hb h; clear hb; refine Ag ?_; refine Aj ?_; obtain rfl := OI h; exact ⟨rfl, Ed [2, 8, 10, 11, 12] [8, 55, 5010] hq⟩
              · clear hx19; rintro e st' ⟨rfl, hl20⟩; refine Aa ?_; refine Af hl20 ?_; refine Jt ⟨[(2, (Jx a_p2)), (8, (.ptr 8 0)), (10, (AV.list 3 Ax Gk x19 (.own 5010))), (11, (Vw x11)), (12, (.int .i64 (Bi (i13 + (1 : Int)))))], [(8, .row 26 (U1 x10)), (55, .tok 3 37 x11.length), (5010, .tok 3 37 x19.length)], []⟩ hq ?_; obtain rfl := OI h; exact ⟨rfl, Le.refl _ _⟩
            · replace h := Ar hb h; clear hb; refine A3 ?_; refine Az ?_; obtain rfl := OI h; exact ⟨(by intro hh; cases hh), rfl, Ed [2, 8, 10, 11] [8, 55, 5010] hq⟩
          · clear hx21; rintro e st' ⟨rfl, hl22⟩; refine Au ?_; refine Aa ?_; refine Af hl22 ?_; obtain ⟨x23, hx23, h⟩ := bind_some h; obtain ⟨x24, hx24, h⟩ := bind_some h; obtain ⟨x25, hx25, h⟩ := bind_some h; obtain ⟨x26, hx26, h⟩ := bind_some h; obtain ⟨x27, hx27, h⟩ := bind_some h; obtain ⟨x28, hx28, h⟩ := bind_some h; obtain ⟨x29, hx29, h⟩ := bind_some h; refine B5 [⟨[], [(20000, 77)], (AV.list 3 Ax Gk x23 (.own 20000)), [(20000, .tok 3 37 x23.length)], []⟩, ⟨[], [], (.bool x24), [], []⟩, ⟨[], [], (AV.list 3 Ax Gk x25 .none), [], []⟩, ⟨[], [], (.bool x26), [], []⟩, ⟨[], [], (AV.list 1 Ad (0 : Int) x27 .none), [], []⟩, ⟨[], [], (AV.list 1 Ad (0 : Int) x28 .none), [], []⟩, ⟨[], [], (.bool x29), [], []⟩] [] ⟨[(6, (.bool (bif (bif x24 then x26 else false) then x29 else false)))], [], []⟩ [(Spec Try.prog 10 [(.agg (At x10.1))] [] (AV.list 3 Ax Gk x23 (.own 20000)) [(20000, .tok 3 37 x23.length)]), (Spec Try.prog 9 [(AV.list 3 Ax Gk x23 .none), (AV.list 3 Ax Gk x11 .none)] [] (.bool x24) []), ((x24 == true) = true → (x24 == true) = true), ((x24 == true) = true → (x24 == true) = true), ((x24 == true) = true → (Spec Try.prog 16 [(.agg (At x10.1)), (Jx a_p2)] [] (AV.list 3 Ax Gk x25 .none) [])), ((x24 == true) = true → (x24 == true) = true), ((x24 == true) = true → (x24 == true) = true), ((x24 == true) = true → (Spec Try.prog 9 [(AV.list 3 Ax Gk x25 .none), (AV.list 3 Ax Gk x21 .none)] [] (.bool x26) [])), (x24 = true → (x24 == true) = true), ((O5 x24 x26) = true → (O5 x24 x26) = true), ((O5 x24 x26) = true → (O5 x24 x26) = true), ((O5 x24 x26) = true → (Spec Try.prog 13 [(.agg (At x10.1)), (Jx a_p2)] [] (AV.list 1 Ad (0 : Int) x27 .none) [])), ((O5 x24 x26) = true → (O5 x24 x26) = true), ((O5 x24 x26) = true → (O5 x24 x26) = true), ((O5 x24 x26) = true → (Spec Try.prog 14 [(.agg (At x10.1)), (Jx a_p2)] [] (AV.list 1 Ad (0 : Int) x28 .none) [])), ((O5 x24 x26) = true → (O5 x24 x26) = true), ((O5 x24 x26) = true → (O5 x24 x26) = true), ((O5 x24 x26) = true → (Spec Try.prog 12 [(AV.list 1 Ad (0 : Int) x27 .none), (AV.list 1 Ad (0 : Int) x28 .none)] [] (.bool x29) [])), ((bif x24 then x26 else false) = true → (O5 x24 x26) = true)] hq ⟨(Mk x10.1 x23 hx23), (Gq x23 x11 x24 hx24), (fun hg => hg), (fun hg => hg), (fun hg => (Spec.drop (Xn x10.1 a_p2 x25 (Ak hg hx25)))), (fun hg => hg), (fun hg => hg), (fun hg => (Gq x25 x21 x26 (Ak hg hx26))), gT, (fun hg => hg), (fun hg => hg), (fun hg => (Spec.drop (Jp x10.1 a_p2 x27 (Ak hg hx27)))), (fun hg => hg), (fun hg => hg), (fun hg => (Spec.drop (Hg x10.1 a_p2 x28 (Ak hg hx28)))), (fun hg => hg), (fun hg => hg), (fun hg => (Er x27 x28 x29 (Ak hg hx29))), gT, trivial⟩ ?_; refine Ao ?_; obtain rfl := OI h; exact ⟨.inl rfl, [], by kernel_rfl⟩
end
end Go.Proofs.Ytjdddniaokcgnaa

namespace Go.Proofs.Ytjdddniaokcgnaa
noncomputable section
open Go Go.RowKit
theorem Kd {n : Int} (h : -9223372036854775808 ≤ n) (h' : n < 9223372036854775808) : Bi n = n := by
  show IntKind.i64.wrap n = n
  simp only [IntKind.wrap, IntKind.bits, IntKind.signed]
  simp
  split <;> omega
theorem As {α : Type} (l : List α) (i : Nat) (d : α) (h : i < l.length) : l.getD i d = l[i] := by simp [List.getD, h]
end
end Go.Proofs.Ytjdddniaokcgnaa

namespace Go.Proofs.Ytjdddniaokcgnaa
noncomputable section
open Go Go.RowKit
set_option linter.unusedVariables false
theorem V0 {α β : Type} (l : List α) (E : α → List β) (B : Nat) (h : ∀ a ∈ l, (E a).length ≤ B) : (l.map E).flatten.length ≤ l.length * B := by
  induction l with
  | nil => simp
  | cons a l ih =>
    have h1 := h a (by simp); have h2 := ih (fun b hb => h b (by simp [hb])); rw [List.map_cons, List.flatten_cons, List.length_append, List.length_cons, Nat.add_mul]; omega
theorem Hj {α : Type} {l : List α} {i : Nat} {d : α} (h : i < l.length) : l.getD i d ∈ l := by rw [As _ _ _ h]; exact List.getElem_mem h
theorem inB_nat {i n : Nat} (h : i < n) : A4 (i : Int) n := ⟨by omega, by exact_mod_cast h⟩
end
end Go.Proofs.Ytjdddniaokcgnaa

namespace Go.Proofs.Ytjdddniaokcgnaa
noncomputable section
open Go Go.RowKit
set_option linter.unusedVariables false
set_option linter.unusedSimpArgs false
theorem Cy {S X : Type} (f : S → Option (LR S X)) (T : Nat → S) (x : X) : ∀ (n : Nat), (∀ i, i < n → f (T i) = some (.next (T (i + 1)))) → f (T n) = some (.done x) → Aw f (T 0) = some x := by
  suffices h : ∀ (k i n : Nat), i + k = n → (∀ j, i ≤ j → j < n → f (T j) = some (.next (T (j + 1)))) → f (T n) = some (.done x) → Aw f (T i) = some x from
    fun n h1 h2 => h n 0 n (by omega) (fun j _ hj => h1 j hj) h2
  intro k
  induction k with
  | zero =>
    intro i n hi _ h2
    have hin : n = i := by omega
    subst hin; exact A6 h2
  | succ k ih => intro i n hi h1 h2; rw [Bf (h1 i (Nat.le_refl _) (by omega))]; exact ih (i + 1) n (by omega) (fun j hj hj' => h1 j (by omega) hj') h2
theorem Wh {S X : Type} (f : S → Option (LR S X)) (T : Nat → S) : ∀ (n : Nat), (∀ i, i < n → f (T i) = some (.next (T (i + 1)))) → Aw f (T 0) = Aw f (T n) := by
  intro n
  induction n with
  | zero => intro _; rfl
  | succ n ih => intro h; rw [ih (fun i hi => h i (by omega)), Bf (h n (by omega))]
theorem Gm {S X : Type} (f : S → Option (LR S X)) (T : Nat → S) (p : Nat → Bool) (yes no : X) (n : Nat) (hn : ∀ i, i < n → p i = true → f (T i) = some (.next (T (i + 1)))) (hf : ∀ i, i < n → p i = false → f (T i) = some (.done no))
    (he : f (T n) = some (.done yes)) : Aw f (T 0) = some (bif (List.range n).all p then yes else no) := by
  cases hall : (List.range n).all p with
  | true =>
    rw [cond_true]; exact Cy f T yes n (fun i hi => hn i hi (List.all_eq_true.1 hall i (List.mem_range.2 hi))) he
  | false =>
    rw [cond_false]
    have hex : ∃ i, i < n ∧ p i = false := by
      have : ¬ ∀ i ∈ List.range n, p i = true := fun h => by rw [List.all_eq_true.2 h] at hall; cases hall
      simpa using this
    let P : Nat → Prop := fun m => m < n ∧ p m = false
    obtain ⟨m, hm⟩ := hex
    have key : ∀ m, m < n → p m = false → ∃ k, k < n ∧ p k = false ∧ ∀ j, j < k → p j = true := by
      intro m
      induction m using Nat.strongRecOn with
      | ind m ih =>
        intro h1 h2
        by_cases h : ∃ j, j < m ∧ p j = false
        · obtain ⟨j, hj, hpj⟩ := h; exact ih j hj (by omega) hpj
        · refine ⟨m, h1, h2, fun j hj => ?_⟩
          cases hpj : p j with
          | true => rfl
          | false => exact (h ⟨j, hj, hpj⟩).elim
    obtain ⟨k, hk, hpk, hlt⟩ := key m hm.1 hm.2; rw [Wh f T k (fun i hi => hn i (by omega) (hlt i hi))]; exact A6 (hf k hk hpk)
theorem all_range {n : Nat} {p : Nat → Bool} : (List.range n).all p = true ↔ ∀ i, i < n → p i = true := by
  rw [List.all_eq_true]; exact ⟨fun h i hi => h i (List.mem_range.2 hi), fun h i hi => h i (List.mem_range.1 hi)⟩
theorem An (i : Nat) : ((i : Int)).toNat = i := Int.toNat_natCast i
theorem w1 {i : Nat} (h : i < 4611686018427387904) : Bi ((i : Int) + 1) = ((i + 1 : Nat) : Int) := by rw [Kd (by omega) (by omega)]; omega
theorem Cb {i n : Nat} (h : i < n) : decide (((i : Nat) : Int) < ((n : Nat) : Int)) = true := by simpa using h
theorem Dh {n : Nat} : decide (((n : Nat) : Int) < ((n : Nat) : Int)) = false := by simp
theorem De {i n : Nat} (h : i < n) : A4 ((i : Nat) : Int) n := inB_nat h
theorem inbz {x : Int} {n : Nat} (h0 : 0 ≤ x) (h1 : x < n) : A4 x n := ⟨h0, h1⟩
def Aap (n : Nat) (l : List Int) (i : Nat) : Bool := decide ((if i = 0 then (-1 : Int) else l.getD (i - 1) 0) < l.getD i 0) && (decide (0 ≤ l.getD i 0) && decide (l.getD i 0 < n))
def okL (n : Nat) (l : List Int) : Bool := (List.range l.length).all (Aap n l)
def Ec (L : List (List Int)) : Bool := decide (1 ≤ L.length) && decide (L.length ≤ 64) && (List.range L.length).all fun i => okL L.length (L.getD i [])
def F9 (L : List (List Int)) (k i : Nat) : Bool := (L.getD k []).contains (i : Int)
def Eb (L : List (List Int)) (m i : Nat) : List Int := ((List.range m).filter fun k => F9 L k i).map Int.ofNat
def Bk (L : List (List Int)) : List (List Int) := (List.range L.length).map (Eb L L.length)
theorem Oq (a n : Int) : Fm a n = some (decide (0 ≤ a) && decide (a < n)) := by
  unfold Fm
  cases decide ((0 : Int) ≤ a) <;> rfl
theorem m_isCount (n : Nat) : Gg (n : Int) = some (decide (1 ≤ n) && decide (n ≤ 64)) := by
  unfold Gg
  have h1 : decide ((1 : Int) ≤ (n : Int)) = decide (1 ≤ n) := by apply decide_eq_decide.2; omega
  have h2 : decide ((n : Int) ≤ (64 : Int)) = decide (n ≤ 64) := by apply decide_eq_decide.2; omega
  rw [h1, h2]
  cases decide (1 ≤ n) <;> rfl
theorem Uq (L : List (List Int)) (i : Nat) (hl : (L.getD i []).length < 4611686018427387904) :
    Aw (Cv L (i : Int)) ((-1 : Int), (0 : Int)) = some (bif okL L.length (L.getD i []) then .inl () else .inr false) := by
  refine Gm (Cv L (i : Int)) (fun j => ((if j = 0 then (-1 : Int) else (L.getD i []).getD (j - 1) 0), ((j : Nat) : Int))) (Aap L.length (L.getD i [])) (.inl ()) (.inr false) _ (fun j hj hp => ?_) (fun j hj hp => ?_) ?_
  · unfold Aap at hp; simp only [Bool.and_eq_true, decide_eq_true_eq] at hp; obtain ⟨h1, h2, h3⟩ := hp
    show Cv L (i : Int) (_, _) = _
    unfold Cv; simp only [An, Cb hj, cond_true, Oq]; rw [Ae (De hj)]
    have e1 : decide ((L.getD i []).getD j 0 ≤ (if j = 0 then (-1 : Int) else (L.getD i []).getD (j - 1) 0)) = false := by simpa using h1
    simp only [e1, decide_eq_true h2, decide_eq_true h3, Bool.and_self, beq_self_eq_true, cond_true, cond_false, Option.bind_some, Bool.not_true]; rw [w1 (show j < 4611686018427387904 by omega)]
    simp
  · show Cv L (i : Int) (_, _) = _
    unfold Cv; simp only [An, Cb hj, cond_true, Oq]; rw [Ae (De hj)]
    cases h1 : decide ((L.getD i []).getD j 0 ≤ (if j = 0 then (-1 : Int) else (L.getD i []).getD (j - 1) 0)) with
    | true => simp only [cond_true, show ((true == false) = false) from rfl, cond_false, Option.bind_some]
    | false =>
      have h1' : decide ((if j = 0 then (-1 : Int) else (L.getD i []).getD (j - 1) 0) < (L.getD i []).getD j 0) = true := by simpa using h1
      unfold Aap at hp; rw [h1', Bool.true_and] at hp; simp only [beq_self_eq_true, cond_true, cond_false, Option.bind_some, hp, Bool.not_false]
  · show Cv L (i : Int) (_, _) = _
    unfold Cv; simp only [An, Dh, cond_false]
def Fits (L : List (List Int)) : Prop := L.length < 4611686018427387904 ∧ ∀ l ∈ L, l.length < 4611686018427387904
theorem Fits.at {L : List (List Int)} (h : Fits L) (i : Nat) : (L.getD i []).length < 4611686018427387904 := by
  by_cases hi : i < L.length
  · exact h.2 _ (Hj hi)
  · rw [List.getD_eq_getElem?_getD, List.getElem?_eq_none (by omega)]; simp
theorem Yb (L : List (List Int)) (h : Fits L) : Fn L = some (Ec L) := by
  unfold Fn; rw [m_isCount, Option.bind_some]; unfold Ec
  cases hc : (decide (1 ≤ L.length) && decide (L.length ≤ 64)) with
  | false => rfl
  | true =>
    simp only [Bool.not_true, cond_false, Bool.true_and]; have := Gm (Cu L) (fun j => ((j : Nat) : Int)) (fun i => okL L.length (L.getD i [])) (.inl ()) (.inr false) L.length (fun j hj hp => ?_) (fun j hj hp => ?_) ?_
    · rw [show Aw (Cu L) (0 : Int) = _ from this]
      cases (List.range L.length).all fun i => okL L.length (L.getD i []) <;> rfl
    · show Cu L (j : Int) = _
      unfold Cu; simp only [Cb hj, cond_true]; rw [Ae (De hj), Uq L j (h.at j), hp]; simp only [cond_true, Option.bind_some, w1 (show j < 4611686018427387904 by have := h.1; omega)]
    · show Cu L (j : Int) = _
      unfold Cu; simp only [Cb hj, cond_true]; rw [Ae (De hj), Uq L j (h.at j), hp]
      rfl
    · show Cu L _ = _
      unfold Cu; simp only [Dh, cond_false]
end
end Go.Proofs.Ytjdddniaokcgnaa

namespace Go.Proofs.Ytjdddniaokcgnaa
noncomputable section
open Go Go.RowKit
set_option linter.unusedVariables false
set_option linter.unusedSimpArgs false
theorem Ht {α : Type} {n i : Nat} {g : Nat → α} {d : α} (h : i < n) : ((List.range n).map g).getD i d = g i := by simp [List.getD, h]
theorem Jm {α : Type} {n i : Nat} {g : Nat → α} {x : α} : ((List.range n).map g).set i x = (List.range n).map fun j => if j = i then x else g j := by
  apply List.ext_getElem?
  intro j; rw [List.getElem?_set]
  by_cases hj : j < n
  · by_cases hij : i = j
    · subst hij; simp [hj]
    · simp [hij, hj, Ne.symm hij]
  · simp [hj]; intro h; omega
theorem Dp {α : Type} {n : Nat} {g h : Nat → α} (H : ∀ i, i < n → g i = h i) : (List.range n).map g = (List.range n).map h := List.map_congr_left fun i hi => H i (List.mem_range.1 hi)
theorem mayS_iff {L : List (List Int)} : Ec L = true ↔ 1 ≤ L.length ∧ L.length ≤ 64 ∧ ∀ i, i < L.length → okL L.length (L.getD i []) = true := by
  unfold Ec; rw [Bool.and_eq_true, Bool.and_eq_true, all_range]; simp only [decide_eq_true_eq]; exact ⟨fun ⟨⟨a, b⟩, c⟩ => ⟨a, b, c⟩, fun ⟨a, b, c⟩ => ⟨⟨a, b⟩, c⟩⟩
theorem okL_iff {n : Nat} {l : List Int} : okL n l = true ↔ ∀ i, i < l.length → (0 ≤ l.getD i 0 ∧ l.getD i 0 < n) ∧ (0 < i → l.getD (i - 1) 0 < l.getD i 0) := by
  unfold okL; rw [all_range]; unfold Aap; simp only [Bool.and_eq_true, decide_eq_true_eq]
  constructor
  · intro h i hi; obtain ⟨h1, h2, h3⟩ := h i hi; refine ⟨⟨h2, h3⟩, fun hp => ?_⟩; rwa [if_neg (by omega)] at h1
  · intro h i hi; obtain ⟨⟨h2, h3⟩, h1⟩ := h i hi; refine ⟨?_, h2, h3⟩
    by_cases hz : i = 0
    · rw [if_pos hz]; omega
    · rw [if_neg hz]; exact h1 (by omega)
section
variable {n : Nat} {l : List Int} (h : okL n l = true)
include h
theorem Ob {i : Nat} (hi : i < l.length) : 0 ≤ l.getD i 0 ∧ l.getD i 0 < n := (okL_iff.1 h i hi).1
theorem Yq {i j : Nat} (hij : i < j) (hj : j < l.length) : l.getD i 0 < l.getD j 0 := by
  induction j with
  | zero => omega
  | succ j ih =>
    have h1 := (okL_iff.1 h (j + 1) hj).2 (by omega); rw [show j + 1 - 1 = j by omega] at h1
    by_cases he : i = j
    · rw [he]; exact h1
    · exact Int.lt_trans (ih (by omega) (by omega)) h1
theorem okL_ge {i : Nat} (hi : i < l.length) : (i : Int) ≤ l.getD i 0 := by
  induction i with
  | zero => exact (Ob h hi).1
  | succ i ih =>
    have := Yq h (show i < i + 1 by omega) hi; have := ih (by omega); omega
theorem Jy : l.length ≤ n := by
  by_cases hz : l.length = 0
  · omega
  · have h1 := okL_ge h (show l.length - 1 < l.length by omega); have h2 := (Ob h (show l.length - 1 < l.length by omega)).2; omega
theorem K3 {x : Int} (hx : x ∈ l) : 0 ≤ x ∧ x < n := by
  obtain ⟨i, hi, rfl⟩ := List.getElem_of_mem hx; have := Ob h hi; rwa [As _ _ _ hi] at this
theorem Aag : l.Pairwise (· < ·) := by
  rw [List.pairwise_iff_getElem]; intro i j hi hj hij; have := Yq h hij hj; rwa [As _ _ _ hi, As _ _ _ hj] at this
end
theorem okL_of {n : Nat} {l : List Int} (h1 : ∀ x ∈ l, 0 ≤ x ∧ x < n) (h2 : l.Pairwise (· < ·)) : okL n l = true := by
  rw [okL_iff]; intro i hi; rw [As _ _ _ hi]; refine ⟨h1 _ (List.getElem_mem hi), fun hp => ?_⟩; rw [As _ _ _ (show i - 1 < l.length by omega)]; exact (List.pairwise_iff_getElem.1 h2) _ _ _ _ (by omega)
theorem Fk {L : List (List Int)} (h : Ec L = true) : L.length ≤ 64 ∧ ∀ l ∈ L, l.length ≤ 64 := by
  obtain ⟨h1, h2, h3⟩ := mayS_iff.1 h; refine ⟨h2, fun l hl => ?_⟩; obtain ⟨i, hi, rfl⟩ := List.getElem_of_mem hl; have := Jy (h3 i hi); rw [As _ _ _ hi] at this; omega
theorem fits_of {L : List (List Int)} (h : L.length ≤ 1000 ∧ ∀ l ∈ L, l.length ≤ 1000) : Fits L := ⟨by omega, fun l hl => by have := h.2 l hl; omega⟩
theorem m_clone (l : List Int) (h : l.length ≤ room) : Dm l = some l := by
  unfold Dm; rw [Ae (by simpa using h)]
  simp
theorem V3 (L : List (List Int)) (h : L.length ≤ 1000 ∧ ∀ l ∈ L, l.length ≤ 1000) : Fe L = some L := by
  have hroom : (1000 : Nat) ≤ room := by decide
  unfold Fe; rw [Ae ⟨by omega, Int.le_refl _, by omega⟩, An]; have : Aw (Dr L) ((0 : Int), (List.range L.length).map fun i => if i < 0 then L.getD i [] else []) = some L := Cy (Dr L) (fun j => (((j : Nat) : Int), (List.range L.length).map fun i => if i < j then L.getD i [] else [])) L L.length (fun j hj => ?_) ?_
  · have e0 : (List.replicate L.length ([] : List Int)) = (List.range L.length).map fun i => if i < 0 then L.getD i [] else [] := by
      apply List.ext_getElem?
      intro i
      by_cases hi : i < L.length <;> simp [hi, List.getElem?_replicate]
    rw [e0, this]; rfl
  · show Dr L (_, _) = _
    unfold Dr; simp only [An, Cb hj, cond_true]; rw [Ae (De hj), m_clone _ (by have := h.2 _ (Hj (d := []) hj); omega), Option.bind_some, Ae (De (by simpa using hj)), Jm, w1 (by omega)]
    congr 3
    apply Dp
    intro i hi
    by_cases h1 : i = j
    · subst h1; simp
    · by_cases h2 : i < j
      · simp [h1, h2, show i < j + 1 by omega]
      · simp [h1, h2, show ¬ i < j + 1 by omega]
  · show Dr L (_, _) = _
    unfold Dr; simp only [Dh, cond_false]
    congr 2
    apply List.ext_getElem?
    intro i
    by_cases hi : i < L.length
    · simp [hi]
    · simp [hi]
theorem Od (L : List (List Int)) (k i : Nat) : Eb L (k + 1) i = Eb L k i ++ (if F9 L k i = true then [(k : Int)] else []) := by
  unfold Eb; rw [List.range_succ, List.filter_append, List.map_append]
  congr 1
  cases hg : F9 L k i <;> simp [hg]
theorem Km (L : List (List Int)) (k i : Nat) : (Eb L k i).length ≤ k := by
  unfold Eb; rw [List.length_map]; have := List.length_filter_le (fun k => F9 L k i) (List.range k)
  simpa using this
theorem Xf {l : List Int} {j : Nat} (hj : j < l.length) : l.take (j + 1) = l.take j ++ [l.getD j 0] := by
  rw [As _ _ _ hj, List.take_succ_eq_append_getElem hj]
def Lo (L : List (List Int)) (k j i : Nat) : Bool := ((L.getD k []).take j).contains (i : Int)
def Gu (L : List (List Int)) (k j : Nat) : List (List Int) := (List.range L.length).map fun i => Eb L k i ++ (if Lo L k j i = true then [(k : Int)] else [])
theorem Aa7 (L : List (List Int)) (h : Ec L = true) (k j : Nat) (hk : k < L.length) (hj : j < (L.getD k []).length) :
    (Gu L k j).set ((L.getD k []).getD j 0).toNat ((Gu L k j).getD ((L.getD k []).getD j 0).toNat [] ++ [(k : Int)]) = Gu L k (j + 1) := by
  obtain ⟨h1, h2, h3⟩ := mayS_iff.1 h; have hok := h3 k hk; obtain ⟨a0, a1⟩ := Ob hok hj; unfold Gu; rw [Ht (by omega), Jm]
  apply Dp
  intro i hi
  have hnot : Lo L k j ((L.getD k []).getD j 0).toNat = false := by
    unfold Lo; rw [Int.toNat_of_nonneg a0]
    cases hc : ((L.getD k []).take j).contains ((L.getD k []).getD j 0) with
    | false => rfl
    | true =>
      rw [List.contains_iff_mem] at hc; obtain ⟨m, hm, he⟩ := List.getElem_of_mem hc
      have hm' : m < j := by simp at hm; omega
      rw [List.getElem_take] at he; have := Yq hok hm' hj; rw [As _ _ _ (show m < (L.getD k []).length by omega), he] at this; omega
  by_cases hi2 : i = ((L.getD k []).getD j 0).toNat
  · rw [if_pos hi2, hnot]
    have : Lo L k (j + 1) i = true := by
      unfold Lo; rw [Xf hj, List.contains_iff_mem, hi2, Int.toNat_of_nonneg a0]
      simp
    rw [this, hi2]
    simp
  · rw [if_neg hi2]
    have : Lo L k (j + 1) i = Lo L k j i := by
      unfold Lo; rw [Xf hj, Bool.eq_iff_iff, List.contains_iff_mem, List.contains_iff_mem, List.mem_append]
      constructor
      · rintro (hm | hm)
        · exact hm
        · simp only [List.mem_singleton] at hm; exact (hi2 (by omega)).elim
      · exact .inl
    rw [this]
theorem Z6 (L : List (List Int)) (h : Ec L = true) : F5 L = some (Bk L) := by
  obtain ⟨h1, h2, h3⟩ := mayS_iff.1 h
  have hroom : (1000 : Nat) ≤ room := by decide
  unfold F5; rw [Ae ⟨by omega, Int.le_refl _, by omega⟩, An]
  have inner : ∀ k, k < L.length → Aw (Ds L (k : Int)) ((0 : Int), Gu L k 0) = some (Gu L k (L.getD k []).length) := fun k hk => by
    have hok := h3 k hk; refine Cy (Ds L (k : Int)) (fun j => (((j : Nat) : Int), Gu L k j)) (Gu L k (L.getD k []).length) (L.getD k []).length (fun j hj => ?_) ?_
    · obtain ⟨a0, a1⟩ := Ob hok hj
      have hlen : (Gu L k j).length = L.length := by simp [Gu]
      have hl64 := Jy hok
      show Ds L (k : Int) (_, _) = _
      unfold Ds; simp only [An, Cb hj, cond_true]; have hb : A4 ((L.getD k []).getD j 0) (Gu L k j).length := ⟨a0, by rw [hlen]; exact a1⟩
      have hrow : ((Gu L k j).getD ((L.getD k []).getD j 0).toNat []).length ≤ k + 1 := by
        unfold Gu; rw [Ht (by omega), List.length_append]; have := Km L k ((L.getD k []).getD j 0).toNat
        split
        · rw [List.length_singleton]; omega
        · rw [List.length_nil]; omega
      rw [Ae (De hj), Ae hb, Ae hb, Ae (by simp only [List.length_singleton]; omega), Ae hb, Aa7 L h k j hk hj, w1 (by omega)]
    · show Ds L (k : Int) (_, _) = _
      unfold Ds; simp only [An, Dh, cond_false]
  have r0 : ∀ k, Gu L k 0 = (List.range L.length).map (Eb L k) := fun k => by
    unfold Gu
    apply Dp
    intro i _; simp [Lo]
  have r1 : ∀ k, Gu L k (L.getD k []).length = (List.range L.length).map (Eb L (k + 1)) := fun k => by
    unfold Gu
    apply Dp
    intro i _; rw [Od]; unfold Lo F9; rw [List.take_length]
  have : Aw (Dv L) ((0 : Int), (List.range L.length).map (Eb L 0)) = some (Bk L) := Cy (Dv L) (fun k => (((k : Nat) : Int), (List.range L.length).map (Eb L k))) (Bk L) L.length (fun k hk => ?_) ?_
  · have e0 : (List.replicate L.length ([] : List Int)) = (List.range L.length).map (Eb L 0) := by
      apply List.ext_getElem?
      intro i
      by_cases hi : i < L.length <;> simp [hi, List.getElem?_replicate, Eb]
    rw [e0, this]; rfl
  · show Dv L (_, _) = _
    unfold Dv; simp only [Cb hk, cond_true]; rw [Ae (De hk), ← r0, inner k hk, r1, w1 (by omega)]
    rfl
  · show Dv L (_, _) = _
    unfold Dv; simp only [Dh, cond_false]
    rfl
end
end Go.Proofs.Ytjdddniaokcgnaa

namespace Go.Proofs.Ytjdddniaokcgnaa
noncomputable section
open Go Go.RowKit
set_option linter.unusedVariables false
set_option linter.unusedSimpArgs false
theorem K5 {α : Type} [DecidableEq α] {a b : List α} {d : α} (h : a.length = b.length) : ((List.range a.length).all fun i => decide (a.getD i d = b.getD i d)) = decide (a = b) := by
  rw [Bool.eq_iff_iff, all_range, decide_eq_true_eq]
  constructor
  · intro hall
    apply List.ext_getElem h
    intro i h1 h2; have := of_decide_eq_true (hall i h1); rwa [As _ _ _ h1, As _ _ _ h2] at this
  · rintro rfl i _
    simp
theorem Q0 {a b : Nat} : (((a : Nat) : Int) != (b : Int)) = decide (a ≠ b) := by
  rw [Bool.eq_iff_iff, bne_iff_ne, decide_eq_true_eq]; omega
theorem Zd {a b : Int} : (a != b) = !decide (a = b) := by
  rw [Bool.eq_iff_iff]
  simp
theorem m_equal (a b : List Int) (hb : b.length < 4611686018427387904) : Ei a b = some (decide (a = b)) := by
  unfold Ei; rw [Q0]
  by_cases hl : a.length = b.length
  · rw [decide_eq_false (by simpa using hl), cond_false]; have : Aw (Bd a b) (0 : Int) = _ := Gm (Bd a b) (fun j => ((j : Nat) : Int)) (fun i => decide (a.getD i 0 = b.getD i 0)) (.inl ()) (.inr false) a.length (fun j hj hp => ?_) (fun j hj hp => ?_) ?_
    · rw [this, K5 hl]
      cases decide (a = b) <;> rfl
    · show Bd a b (j : Int) = _
      unfold Bd; simp only [An, Cb hj, cond_true]; rw [Ae (De hj), Ae (De (by omega)), Zd, hp, w1 (by omega)]
      rfl
    · show Bd a b (j : Int) = _
      unfold Bd; simp only [An, Cb hj, cond_true]; rw [Ae (De hj), Ae (De (by omega)), Zd, hp]
      rfl
    · show Bd a b _ = _
      unfold Bd; simp only [Dh, cond_false]
  · rw [decide_eq_true (by simpa using hl), cond_true, decide_eq_false (fun h => hl (by rw [h]))]
theorem m_ints (a b : List Int) (ha : a.length < 4611686018427387904) : Be a b = some (decide (a = b)) := by
  unfold Be; rw [Q0]
  by_cases hl : a.length = b.length
  · rw [decide_eq_false (by simpa using hl), cond_false]; have : Aw (Bn a b) (0 : Int) = _ := Gm (Bn a b) (fun j => ((j : Nat) : Int)) (fun i => decide (a.getD i 0 = b.getD i 0)) (.inl ()) (.inr false) a.length (fun j hj hp => ?_) (fun j hj hp => ?_) ?_
    · rw [this, K5 hl]
      cases decide (a = b) <;> rfl
    · show Bn a b (j : Int) = _
      unfold Bn; simp only [An, Cb hj, cond_true]; rw [Ae (De hj), Ae (De (by omega)), Zd, hp, w1 (by omega)]
      rfl
    · show Bn a b (j : Int) = _
      unfold Bn; simp only [An, Cb hj, cond_true]; rw [Ae (De hj), Ae (De (by omega)), Zd, hp]
      rfl
    · show Bn a b _ = _
      unfold Bn; simp only [Dh, cond_false]
  · rw [decide_eq_true (by simpa using hl), cond_true, decide_eq_false (fun h => hl (by rw [h]))]
theorem Aax (a b : List (List Int)) (hb : Fits b) : Cc a b = some (decide (a = b)) := by
  unfold Cc; rw [Q0]
  by_cases hl : a.length = b.length
  · rw [decide_eq_false (by simpa using hl), cond_false]; have hb1 := hb.1; have : Aw (A0 a b) (0 : Int) = _ := Gm (A0 a b) (fun j => ((j : Nat) : Int)) (fun i => decide (a.getD i [] = b.getD i [])) (.inl ()) (.inr false) a.length (fun j hj hp => ?_) (fun j hj hp => ?_) ?_
    · rw [this, K5 hl]
      cases decide (a = b) <;> rfl
    · show A0 a b (j : Int) = _
      unfold A0; simp only [An, Cb hj, cond_true]; rw [Ae (De hj), Ae (De (by omega)), m_equal _ _ (hb.at j), hp, w1 (by omega)]
      rfl
    · show A0 a b (j : Int) = _
      unfold A0; simp only [An, Cb hj, cond_true]; rw [Ae (De hj), Ae (De (by omega)), m_equal _ _ (hb.at j), hp]
      rfl
    · show A0 a b _ = _
      unfold A0; simp only [Dh, cond_false]
  · rw [decide_eq_true (by simpa using hl), cond_true, decide_eq_false (fun h => hl (by rw [h]))]
theorem Dg (L : List (List Int)) : (Bk L).length = L.length := by simp [Bk]
theorem H3 {L : List (List Int)} {i : Nat} (hi : i < L.length) : (Bk L).getD i [] = Eb L L.length i := by unfold Bk; rw [Ht hi]
theorem L8 {L : List (List Int)} (h : Ec L = true) : (Bk L).length ≤ 64 ∧ ∀ l ∈ Bk L, l.length ≤ 64 := by
  obtain ⟨h1, _⟩ := Fk h; refine ⟨by rw [Dg]; exact h1, fun l hl => ?_⟩; obtain ⟨i, hi, rfl⟩ := List.mem_map.1 hl; have := Km L L.length i; omega
theorem G4 {L : List (List Int)} (h : L.length ≤ 64 ∧ ∀ l ∈ L, l.length ≤ 64) : Fits L := fits_of ⟨by omega, fun l hl => by have := h.2 l hl; omega⟩
theorem Zi {L : List (List Int)} (h : L.length ≤ 64 ∧ ∀ l ∈ L, l.length ≤ 64) : L.length ≤ 1000 ∧ ∀ l ∈ L, l.length ≤ 1000 := ⟨by omega, fun l hl => by have := h.2 l hl; omega⟩
def Hn (g : TGraph) : Bool := Ec g.Succ && decide (g.Pred = Bk g.Succ)
theorem m_may (g : TGraph) (h : Fits g.Succ) : Gz g = some (Hn g) := by
  unfold Gz Hn; rw [Yb _ h, Option.bind_some]
  cases hm : Ec g.Succ with
  | false => rfl
  | true =>
    simp only [beq_self_eq_true, cond_true, Z6 _ hm, Option.bind_some, Aax _ _ (G4 (L8 hm)), Bool.true_and]
def gOf (L : List (List Int)) : TGraph := ⟨L, Bk L⟩
def g0 : TGraph := ⟨[], []⟩
theorem m_make (L : List (List Int)) (h : Fits L) : Fa L = some (bif Ec L then (gOf L, 0) else (g0, 5)) := by
  unfold Fa; rw [Yb _ h, Option.bind_some]
  cases hm : Ec L with
  | false => rfl
  | true =>
    simp only [Bool.not_true, cond_false, V3 _ (Zi (Fk hm)), Z6 _ hm, Option.bind_some]
    rfl
theorem N5 {L : List (List Int)} (h : Ec L = true) : Hn (gOf L) = true := by simp [Hn, gOf, h]
theorem Ve (g : TGraph) (h : Fits g.Succ) : Dy g = some (bif Hn g then ⟨g.Pred, g.Succ⟩ else g0) := by
  unfold Dy; rw [m_may _ h, Option.bind_some]
  cases hm : Hn g with
  | false => rfl
  | true =>
    have hm' := hm; unfold Hn at hm'; simp only [Bool.and_eq_true, decide_eq_true_eq] at hm'; simp only [Bool.not_true, cond_false, V3 _ (Zi (Fk hm'.1)), Option.bind_some]; rw [V3 _ (by rw [hm'.2]; exact Zi (L8 hm'.1))]
    rfl
theorem m_has (l : List Int) (x : Int) (h : l.length < 4611686018427387904) : Dc l x = some (l.contains x) := by
  unfold Dc; have : Aw (Bu l x) (0 : Int) = _ := Gm (Bu l x) (fun j => ((j : Nat) : Int)) (fun i => !decide (l.getD i 0 = x)) (.inl ()) (.inr true) l.length (fun j hj hp => ?_) (fun j hj hp => ?_) ?_
  · rw [this]
    have e : l.contains x = !((List.range l.length).all fun i => !decide (l.getD i 0 = x)) := by
      rw [Bool.eq_iff_iff, List.contains_iff_mem, Bool.not_eq_true', ← Bool.not_eq_true, all_range]
      constructor
      · intro hx hall; obtain ⟨i, hi, rfl⟩ := List.getElem_of_mem hx; have := hall i hi; rw [As _ _ _ hi] at this; simp at this
      · intro hall
        by_cases hx : x ∈ l
        · exact hx
        · refine (hall fun i hi => ?_).elim; rw [As _ _ _ hi]; simp only [Bool.not_eq_true', decide_eq_false_iff_not]; rintro rfl; exact hx (List.getElem_mem hi)
    rw [e]
    cases (List.range l.length).all fun i => !decide (l.getD i 0 = x) <;> rfl
  · show Bu l x (j : Int) = _
    unfold Bu; simp only [An, Cb hj, cond_true]
    have : (l.getD j 0 == x) = false := by simpa using hp
    rw [Ae (De hj), this, w1 (by omega)]
    rfl
  · show Bu l x (j : Int) = _
    unfold Bu; simp only [An, Cb hj, cond_true]
    have : (l.getD j 0 == x) = true := by simpa using hp
    rw [Ae (De hj), this]
    rfl
  · show Bu l x _ = _
    unfold Bu; simp only [Dh, cond_false]
theorem X3 {X : Type} (a b : List (List Int)) (f : Int → Option (LR Int (Unit ⊕ Bool))) (ha : Fits a) (hl : a.length = b.length)
    (hn : ∀ i : Nat, i < a.length → f (i : Int) = (Be (a.getD i []) (b.getD i [])).bind fun x => bif (!x) then some (.done (.inr false)) else some (.next (Bi ((i : Int) + 1)))) (he : f (a.length : Int) = some (.done (.inl ()))) :
    Aw f (0 : Int) = some (bif decide (a = b) then .inl () else .inr false) := by
  have ha1 := ha.1; have : Aw f (0 : Int) = _ := Gm f (fun j => ((j : Nat) : Int)) (fun i => decide (a.getD i [] = b.getD i [])) (.inl ()) (.inr false) a.length (fun j hj hp => ?_) (fun j hj hp => ?_) he
  · rw [this, K5 hl]
  · rw [hn j hj, m_ints _ _ (ha.at j), hp, w1 (by omega)]; rfl
  · rw [hn j hj, m_ints _ _ (ha.at j), hp]; rfl
theorem m_same (a b : TGraph) (h1 : Fits a.Succ) (h2 : Fits a.Pred) : E2 a b = some (decide (a = b)) := by
  have e : decide (a = b) = (decide (a.Succ = b.Succ) && decide (a.Pred = b.Pred)) := by
    cases a; cases b
    rw [Bool.eq_iff_iff]
    simp
  rw [e]; unfold E2; rw [Q0, Q0]
  by_cases hs : a.Succ.length = b.Succ.length
  · by_cases hp : a.Pred.length = b.Pred.length
    · rw [decide_eq_false (by simpa using hs), cond_false, decide_eq_false (by simpa using hp), cond_false]
      have s1 := X3 (X := Unit) a.Succ b.Succ (D8 a b) h1 hs (fun i hi => by
        unfold D8; simp only [An, Cb hi, cond_true]
        rw [Ae (De hi), Ae (De (by omega))]) (by
        unfold D8
        simp only [Dh, cond_false])
      have s2 := X3 (X := Unit) a.Pred b.Pred (D6 a b) h2 hp (fun i hi => by
        unfold D6; simp only [An, Cb hi, cond_true]
        rw [Ae (De hi), Ae (De (by omega))]) (by
        unfold D6
        simp only [Dh, cond_false])
      rw [s1]
      cases decide (a.Succ = b.Succ) with
      | false => rfl
      | true =>
        simp only [cond_true, Option.bind_some, Bool.true_and]; rw [s2]
        cases decide (a.Pred = b.Pred) <;> rfl
    · rw [decide_eq_true (show a.Pred.length ≠ b.Pred.length from hp), decide_eq_false (p := a.Pred = b.Pred) (fun h => hp (by rw [h]))]
      cases decide (a.Succ.length ≠ b.Succ.length) <;> simp
  · rw [decide_eq_true (show a.Succ.length ≠ b.Succ.length from hs), decide_eq_false (p := a.Succ = b.Succ) (fun h => hs (by rw [h]))]
    simp
end
end Go.Proofs.Ytjdddniaokcgnaa

namespace Go.Proofs.Ytjdddniaokcgnaa
noncomputable section
open Go Go.RowKit
set_option linter.unusedVariables false
set_option linter.unusedSimpArgs false
theorem Iz {R : Type} {c : Bool} {q : Prop} [Decidable q] {k : Option R} (h : q) : Bw (c = true → q) k = k := Ae fun _ => h
theorem chk_off {R : Type} {q : Prop} [Decidable q] {k : Option R} : Bw (false = true → q) k = k := Ae (by intro h; cases h)
def badAt (n : Nat) (l : List Int) (j : Nat) : Bool :=
  bif (bif decide (l.getD j 0 < 0) then true else decide ((n : Int) ≤ l.getD j 0)) then true else (bif decide ((0 : Int) < (j : Int)) then decide (l.getD j 0 ≤ l.getD (j - 1) 0) else false)
theorem bad_ok (n : Nat) (l : List Int) (j : Nat) : badAt n l j = !Aap n l j := by
  unfold badAt Aap
  by_cases h0 : l.getD j 0 < 0
  · have h1 : decide (0 ≤ l.getD j 0) = false := by simpa using h0
    rw [decide_eq_true h0, h1]; simp
  · have h1 : decide (0 ≤ l.getD j 0) = true := by simpa using h0
    rw [decide_eq_false h0, h1]
    by_cases h2 : (n : Int) ≤ l.getD j 0
    · have h3 : decide (l.getD j 0 < (n : Int)) = false := by simpa using h2
      rw [decide_eq_true h2, h3]; simp
    · have h3 : decide (l.getD j 0 < (n : Int)) = true := by simpa using h2
      rw [decide_eq_false h2, h3]
      by_cases hj : j = 0
      · subst hj; have h4 : decide ((-1 : Int) < l.getD 0 0) = true := decide_eq_true (by omega); rw [if_pos rfl, h4]; simp
      · rw [if_neg hj, decide_eq_true (show (0 : Int) < (j : Int) by omega)]
        by_cases h5 : l.getD j 0 ≤ l.getD (j - 1) 0
        · rw [decide_eq_true h5, decide_eq_false (show ¬ l.getD (j - 1) 0 < l.getD j 0 by omega)]; rfl
        · rw [decide_eq_false h5, decide_eq_true (show l.getD (j - 1) 0 < l.getD j 0 by omega)]; rfl
theorem S3 (L : List (List Int)) (i : Nat) (hi : i < L.length) (hl : (L.getD i []).length < 4611686018427387904) :
    Aw (Bl L (i : Int)) (0 : Int) = some (bif okL L.length (L.getD i []) then .inl () else .inr (g0, 5)) := by
  have hw : ∀ j : Nat, j < (L.getD i []).length → 0 < j → Bi ((j : Int) - 1) = ((j - 1 : Nat) : Int) := fun j hj hp => by rw [Kd (by omega) (by omega)]; omega
  have step : ∀ j, j < (L.getD i []).length → Bl L (i : Int) (j : Int) = bif badAt L.length (L.getD i []) j then some (.done (.inr (g0, 5))) else some (.next (((j + 1 : Nat) : Int))) := fun j hj => by
    unfold Bl; simp only [An, Cb hj, cond_true]; rw [Ae (De hi), Ae (De hi), Ae (De hj), Iz (De hi), Iz (De hj), Iz (De hi), Iz (De hj), Iz (De hi), w1 (by omega)]
    by_cases hz : j = 0
    · subst hz
      have : decide ((0 : Int) < ((0 : Nat) : Int)) = false := by decide
      unfold badAt; rw [this]; simp only [cond_false]; rw [show ((false == true) = false) from rfl, Bool.and_false, chk_off]
      rfl
    · rw [hw j hj (by omega), Iz (De (by omega)), An]
      rfl
  have := Gm (Bl L (i : Int)) (fun j => ((j : Nat) : Int)) (Aap L.length (L.getD i [])) (.inl ()) (.inr (g0, 5)) (L.getD i []).length (fun j hj hp => ?_) (fun j hj hp => ?_) ?_
  · exact this
  · show Bl L (i : Int) (j : Int) = _
    rw [step j hj, bad_ok, hp]; rfl
  · show Bl L (i : Int) (j : Int) = _
    rw [step j hj, bad_ok, hp]; rfl
  · show Bl L (i : Int) _ = _
    unfold Bl; simp only [An, Dh, cond_false]; rw [Ae (De hi)]
theorem W2 (L : List (List Int)) (h : Ec L = true) : Aw (B2 L) ((0 : Int), List.replicate L.length ([] : List Int)) = some (Bk L) := by
  obtain ⟨h1, h2, h3⟩ := mayS_iff.1 h
  have hroom : (1000 : Nat) ≤ room := by decide
  have hfit := G4 (Fk h)
  let R : Nat → Nat → List (List Int) := fun i k => (List.range L.length).map fun j => if j < i then Eb L L.length j else if j = i then Eb L k i else []
  have inner : ∀ i, i < L.length → Aw (Cg L (i : Int)) ((0 : Int), R i 0) = some (R i L.length) := fun i hi => by
    refine Cy (Cg L (i : Int)) (fun k => (((k : Nat) : Int), R i k)) (R i L.length) L.length (fun k hk => ?_) ?_
    · show Cg L (i : Int) (_, _) = _
      have hlen : (R i k).length = L.length := by simp [R]
      have hat : (R i k).getD i [] = Eb L k i := by simp only [R]; rw [Ht hi]; simp
      unfold Cg; simp only [An, Cb hk, cond_true]; rw [Ae (De hk), m_has _ _ (hfit.at k), Option.bind_some, w1 (by omega)]; have hg : F9 L k i = (L.getD k []).contains (i : Int) := rfl; rw [← hg, hat]
      have hs : (if F9 L k i = true then (R i k).set i (Eb L k i ++ [(k : Int)]) else R i k) = R i (k + 1) := by
        split
        · rename_i hgo
          simp only [R]; rw [Jm]
          apply Dp
          intro j hj
          by_cases hji : j = i
          · subst hji; simp [Od, hgo]
          · simp [hji]
        · rename_i hgo
          simp only [R]
          apply Dp
          intro j hj
          by_cases hji : j = i
          · subst hji; simp [Od, hgo]
          · simp [hji]
      rw [← hs]
      cases hgo : F9 L k i with
      | false => rfl
      | true =>
        have := Km L k i; simp only [cond_true]; rw [Ae (by rw [hlen]; exact De hi), Ae (by rw [hlen]; exact De hi), Ae (by rw [List.length_singleton]; omega), Ae (by rw [hlen]; exact De hi)]
        rfl
    · show Cg L (i : Int) (_, _) = _
      unfold Cg; simp only [Dh, cond_false]
  have : Aw (B2 L) ((0 : Int), R 0 0) = some (Bk L) := Cy (B2 L) (fun i => (((i : Nat) : Int), R i 0)) (Bk L) L.length (fun i hi => ?_) ?_
  · have e0 : List.replicate L.length ([] : List Int) = R 0 0 := by
      simp only [R]
      apply List.ext_getElem?
      intro j
      by_cases hj : j < L.length <;> simp [hj, List.getElem?_replicate, Eb]
    rw [e0, this]
  · show B2 L (_, _) = _
    unfold B2; simp only [Cb hi, cond_true]; rw [inner i hi, w1 (by omega)]; simp only [Option.bind_some]
    congr 3
    simp only [R]
    apply Dp
    intro j hj
    by_cases h4 : j < i
    · simp [h4, show j < i + 1 by omega]
    · by_cases h5 : j = i
      · subst h5; simp
      · simp [h4, h5, show ¬ j < i + 1 by omega]; intro h6; simp [Eb]
  · show B2 L (_, _) = _
    unfold B2; simp only [Dh, cond_false]
    congr 2
    simp only [R, Bk]
    apply Dp
    intro j hj; simp [hj]
theorem Pu (L : List (List Int)) (h : Fits L) : C4 L = some (bif Ec L then (gOf L, 0) else (g0, 5)) := by
  have hroom : (1000 : Nat) ≤ room := by decide
  unfold C4
  have hc : (bif ((L.length : Int) == (0 : Int)) then true else decide ((64 : Int) < (L.length : Int))) = !(decide (1 ≤ L.length) && decide (L.length ≤ 64)) := by
    by_cases h0 : L.length = 0
    · rw [h0]; rfl
    · rw [show ((L.length : Int) == 0) = false by simp only [beq_eq_false_iff_ne]; omega, decide_eq_true (show 1 ≤ L.length by omega)]
      by_cases h1 : L.length ≤ 64
      · rw [decide_eq_true h1, decide_eq_false (show ¬ (64 : Int) < (L.length : Int) by omega)]; rfl
      · rw [decide_eq_false h1, decide_eq_true (show (64 : Int) < (L.length : Int) by omega)]; rfl
  rw [hc]; have hm : Ec L = ((decide (1 ≤ L.length) && decide (L.length ≤ 64)) && (List.range L.length).all fun i => okL L.length (L.getD i [])) := rfl
  cases hb : (decide (1 ≤ L.length) && decide (L.length ≤ 64)) with
  | false => rw [hm, hb]; rfl
  | true =>
    simp only [Bool.not_true, cond_false]; have hb' := hb; simp only [Bool.and_eq_true, decide_eq_true_eq] at hb'; have : Aw (Bm L) (0 : Int) = _ := Gm (Bm L) (fun j => ((j : Nat) : Int)) (fun i => okL L.length (L.getD i [])) (.inl ()) (.inr (g0, 5)) L.length (fun j hj hp => ?_) (fun j hj hp => ?_) ?_
    · rw [this]
      cases hall : (List.range L.length).all fun i => okL L.length (L.getD i []) with
      | false => rw [hm, hb, hall]; rfl
      | true =>
        have hmay : Ec L = true := by rw [hm, hb, hall]; rfl
        rw [hmay]; simp only [cond_true, Option.bind_some]; rw [Ae ⟨by omega, Int.le_refl _, by omega⟩, An, W2 L hmay]
        rfl
    · show Bm L (j : Int) = _
      unfold Bm; simp only [Cb hj, cond_true]; rw [S3 L j hj (h.at j), hp, w1 (by omega)]
      rfl
    · show Bm L (j : Int) = _
      unfold Bm; simp only [Cb hj, cond_true]; rw [S3 L j hj (h.at j), hp]
      rfl
    · show Bm L _ = _
      unfold Bm; simp only [Dh, cond_false]
theorem G5 {L : List (List Int)} (h : Ec L = true) : Fits (gOf L).Succ ∧ Fits (gOf L).Pred := ⟨G4 (Fk h), G4 (L8 h)⟩
theorem Xg (g : TGraph) (h : Fits g.Succ) : Ej g = some (Hn g) := by
  unfold Ej Hn; rw [Pu _ h, Option.bind_some]
  cases hm : Ec g.Succ with
  | false => rfl
  | true =>
    simp only [cond_true, beq_self_eq_true, Bool.true_and]; rw [m_same _ _ (G5 hm).1 (G5 hm).2]; simp only [Option.bind_some]
    congr 1
    apply decide_eq_decide.2
    cases g with
    | mk s p =>
      simp only [gOf, TGraph.mk.injEq, true_and]; exact eq_comm
def Rm (L : List (List Int)) : Bool := (List.range L.length).all fun i => decide ((L.getD i []).length ≤ 100) && decide (i ≤ 100)
theorem m_small (L : List (List Int)) (hL : L.length < 9223372036854775808) : Dw L = some (Rm L) := by
  unfold Dw
  have step : ∀ j : Nat, j < L.length → Bh L (j : Int) = bif (decide ((L.getD j []).length ≤ 100) && decide (j ≤ 100)) then some (.next (((j + 1 : Nat) : Int))) else some (.done (.inr false)) := fun j hj => by
    unfold Bh; simp only [An, Cb hj, cond_true]; rw [Ae (De hj)]
    have hw : Bi ((j : Int) + 1) = ((j + 1 : Nat) : Int) := by rw [Kd (by omega) (by omega)]; omega
    rw [hw]
    by_cases h1 : (L.getD j []).length ≤ 100
    · rw [decide_eq_true h1, decide_eq_false (show ¬ (100 : Int) < ((L.getD j []).length : Int) by omega)]
      by_cases h2 : j ≤ 100
      · rw [decide_eq_true h2, decide_eq_false (show ¬ (100 : Int) < (j : Int) by omega)]; rfl
      · rw [decide_eq_false h2, decide_eq_true (show (100 : Int) < (j : Int) by omega)]; rfl
    · rw [decide_eq_false h1, decide_eq_true (show (100 : Int) < ((L.getD j []).length : Int) by omega)]; rfl
  have : Aw (Bh L) (0 : Int) = _ := Gm (Bh L) (fun j => ((j : Nat) : Int)) (fun i => decide ((L.getD i []).length ≤ 100) && decide (i ≤ 100)) (.inl ()) (.inr false) L.length (fun j hj hp => ?_) (fun j hj hp => ?_) ?_
  · rw [this]; unfold Rm
    cases (List.range L.length).all fun i => decide ((L.getD i []).length ≤ 100) && decide (i ≤ 100) <;> rfl
  · show Bh L (j : Int) = _
    rw [step j hj, hp]; rfl
  · show Bh L (j : Int) = _
    rw [step j hj, hp]; rfl
  · show Bh L _ = _
    unfold Bh; simp only [Dh, cond_false]
theorem Sn {L : List (List Int)} (h : Rm L = true) : Fits L := by
  unfold Rm at h; rw [all_range] at h; simp only [Bool.and_eq_true, decide_eq_true_eq] at h; refine fits_of ⟨?_, fun l hl => ?_⟩
  · by_cases h0 : L.length = 0
    · omega
    · have := (h (L.length - 1) (by omega)).2; omega
  · obtain ⟨i, hi, rfl⟩ := List.getElem_of_mem hl; have := (h i hi).1; rw [As _ _ _ hi] at this; omega
end
end Go.Proofs.Ytjdddniaokcgnaa

namespace Go.Proofs.Ytjdddniaokcgnaa
noncomputable section
open Go Go.RowKit
set_option linter.unusedVariables false
set_option linter.unusedSimpArgs false
def upd (s : Nat → Bool) (y : Nat) : Nat → Bool := fun z => decide (z = y) || s z
theorem upd_true {s : Nat → Bool} {y z : Nat} : upd s y z = true ↔ z = y ∨ s z = true := by simp [upd]
theorem upd_false {s : Nat → Bool} {y z : Nat} : upd s y z = false ↔ z ≠ y ∧ s z = false := by simp [upd]
inductive VL (S : Nat → List Nat) : (Nat → Bool) → List Nat → (Nat → Bool) → List Nat → Prop
  | nil (s : Nat → Bool) : VL S s [] s []
  | skip {s s' : Nat → Bool} {y : Nat} {l o : List Nat} (h : s y = true) (t : VL S s l s' o) : VL S s (y :: l) s' o
  | step {s s1 s2 : Nat → Bool} {y : Nat} {l o1 o2 : List Nat} (h : s y = false) (a : VL S (upd s y) (S y) s1 o1) (b : VL S s1 l s2 o2) : VL S s (y :: l) s2 (o1 ++ y :: o2)
inductive Rch (S : Nat → List Nat) : Nat → Nat → Prop
  | refl (x : Nat) : Rch S x x
  | head {x y z : Nat} (h : y ∈ S x) (t : Rch S y z) : Rch S x z
theorem Rch.tail {S : Nat → List Nat} {x y z : Nat} (h : Rch S x y) (hz : z ∈ S y) : Rch S x z := by
  induction h with
  | refl x => exact .head hz (.refl _)
  | head h _ ih => exact .head h (ih hz)
theorem Rch.trans {S : Nat → List Nat} {x y z : Nat} (h : Rch S x y) (k : Rch S y z) : Rch S x z := by
  induction h with
  | refl x => exact k
  | head h _ ih => exact .head h (ih k)
variable {S : Nat → List Nat} {s s' : Nat → Bool} {l o : List Nat}
theorem VL.seen (h : VL S s l s' o) (z : Nat) : s' z = true ↔ s z = true ∨ z ∈ o := by
  induction h with
  | nil s => simp
  | skip h _ ih => exact ih
  | @step s s1 s2 y l o1 o2 h a b iha ihb =>
    rw [ihb, iha, upd_true]; simp only [List.mem_append, List.mem_cons]
    constructor
    · rintro ((( rfl | h1) | h1) | h1)
      · exact .inr (.inr (.inl rfl))
      · exact .inl h1
      · exact .inr (.inl h1)
      · exact .inr (.inr (.inr h1))
    · rintro (h1 | h1 | rfl | h1)
      · exact .inl (.inl (.inr h1))
      · exact .inl (.inr h1)
      · exact .inl (.inl (.inl rfl))
      · exact .inr h1
theorem VL.fresh (h : VL S s l s' o) {z : Nat} (hz : z ∈ o) : s z = false := by
  induction h with
  | nil s => cases hz
  | skip h _ ih => exact ih hz
  | @step s s1 s2 y l o1 o2 h a b iha ihb =>
    rcases List.mem_append.1 hz with h1 | h1
    · exact (upd_false.1 (iha h1)).2
    · rcases List.mem_cons.1 h1 with rfl | h1
      · exact h
      · have := ihb h1
        cases hs : s z with
        | false => rfl
        | true => rw [(a.seen z).2 (.inl (upd_true.2 (.inr hs)))] at this; cases this
theorem VL.nodup (h : VL S s l s' o) : o.Nodup := by
  induction h with
  | nil s => exact List.nodup_nil
  | skip h _ ih => exact ih
  | @step s s1 s2 y l o1 o2 h a b iha ihb =>
    rw [List.nodup_append]; refine ⟨iha, List.nodup_cons.2 ⟨fun hy => ?_, ihb⟩, fun u hu v hv => ?_⟩
    · have := b.fresh hy; rw [(a.seen y).2 (.inl (upd_true.2 (.inl rfl)))] at this
      cases this
    · rintro rfl; rcases List.mem_cons.1 hv with rfl | hv
      · have := a.fresh hu; rw [upd_true.2 (.inl rfl)] at this
        cases this
      · have := b.fresh hv; rw [(a.seen u).2 (.inr hu)] at this
        cases this
theorem VL.rch (h : VL S s l s' o) {z : Nat} (hz : z ∈ o) : ∃ y ∈ l, Rch S y z := by
  induction h with
  | nil s => cases hz
  | skip h _ ih => obtain ⟨y, hy, hr⟩ := ih hz; exact ⟨y, List.mem_cons_of_mem _ hy, hr⟩
  | @step s s1 s2 y l o1 o2 h a b iha ihb =>
    rcases List.mem_append.1 hz with h1 | h1
    · obtain ⟨u, hu, hr⟩ := iha h1; exact ⟨y, List.mem_cons_self .., .head hu hr⟩
    · rcases List.mem_cons.1 h1 with rfl | h1
      · exact ⟨z, List.mem_cons_self .., .refl z⟩
      · obtain ⟨u, hu, hr⟩ := ihb h1; exact ⟨u, List.mem_cons_of_mem _ hu, hr⟩
theorem VL.closed (h : VL S s l s' o) : (∀ y ∈ l, s' y = true) ∧ ∀ z ∈ o, ∀ y ∈ S z, s' y = true := by
  induction h with
  | nil s => exact ⟨(fun _ h => by cases h), (fun _ h => by cases h)⟩
  | @skip s s' y l o h t ih =>
    refine ⟨fun u hu => ?_, ih.2⟩; rcases List.mem_cons.1 hu with rfl | hu
    · exact (t.seen u).2 (.inl h)
    · exact ih.1 u hu
  | @step s s1 s2 y l o1 o2 h a b iha ihb =>
    refine ⟨fun u hu => ?_, fun z hz u hu => ?_⟩
    · rcases List.mem_cons.1 hu with rfl | hu
      · exact (b.seen u).2 (.inl ((a.seen u).2 (.inl (upd_true.2 (.inl rfl)))))
      · exact ihb.1 u hu
    · rcases List.mem_append.1 hz with h1 | h1
      · exact (b.seen u).2 (.inl (iha.2 z h1 u hu))
      · rcases List.mem_cons.1 h1 with rfl | h1
        · exact (b.seen u).2 (.inl (iha.1 u hu))
        · exact ihb.2 z h1 u hu
theorem VL.above (h : VL S s l s' o) (hf : ∀ z, ∀ y ∈ S z, z < y) {b : Nat} (hb : ∀ y ∈ l, b < y) : ∀ z ∈ o, b < z := by
  induction h generalizing b with
  | nil s => intro z hz; cases hz
  | skip h _ ih => exact ih (fun y hy => hb y (List.mem_cons_of_mem _ hy))
  | @step s s1 s2 y l o1 o2 h a c iha ihb =>
    intro z hz; have hy := hb y (List.mem_cons_self ..); rcases List.mem_append.1 hz with h1 | h1
    · exact iha (fun u hu => Nat.lt_trans hy (hf y u hu)) z h1
    · rcases List.mem_cons.1 h1 with rfl | h1
      · exact hy
      · exact ihb (fun u hu => hb u (List.mem_cons_of_mem _ hu)) z h1
theorem VL.ahead (h : VL S s l s' o) (hf : ∀ z, ∀ y ∈ S z, z < y) : ∀ z ∈ o, ∀ y ∈ S z, s y = true ∨ ∃ A B, o = A ++ z :: B ∧ y ∈ A := by
  induction h with
  | nil s => intro z hz; cases hz
  | skip h _ ih => exact ih
  | @step s s1 s2 y l o1 o2 h a c iha ihb =>
    intro z hz u hu; rcases List.mem_append.1 hz with h1 | h1
    · have hzy : y < z := a.above hf (fun v hv => hf y v hv) z h1; have hzu := hf z u hu; rcases iha z h1 u hu with h2 | ⟨A, B, rfl, hA⟩
      · rcases upd_true.1 h2 with rfl | h2
        · omega
        · exact .inl h2
      · exact .inr ⟨A, B ++ y :: o2, by simp, hA⟩
    · rcases List.mem_cons.1 h1 with rfl | h1z
      · have hzu := hf z u hu; rcases (a.seen u).1 (a.closed.1 u hu) with h2 | h2
        · rcases upd_true.1 h2 with rfl | h2
          · omega
          · exact .inl h2
        · exact .inr ⟨o1, o2, rfl, h2⟩
      · rcases ihb z h1z u hu with h2 | ⟨A, B, rfl, hA⟩
        · rcases (a.seen u).1 h2 with h3 | h3
          · rcases upd_true.1 h3 with rfl | h3
            · obtain ⟨P, Q, rfl⟩ := List.append_of_mem h1z; exact .inr ⟨o1 ++ u :: P, Q, by simp, by simp⟩
            · exact .inl h3
          · obtain ⟨P, Q, rfl⟩ := List.append_of_mem h1z; exact .inr ⟨o1 ++ y :: P, Q, by simp, by simp [h3]⟩
        · exact .inr ⟨o1 ++ y :: A, B, by simp, by simp [hA]⟩
def Zs (n : Nat) (s : Nat → Bool) : Nat := ((List.range n).filter fun z => !s z).length
theorem Og {n : Nat} {s : Nat → Bool} {y : Nat} (hy : y < n) (h : s y = false) : Zs n (upd s y) + 1 = Zs n s := by
  unfold Zs
  induction n with
  | zero => omega
  | succ n ih =>
    rw [List.range_succ, List.filter_append, List.filter_append, List.length_append, List.length_append]
    by_cases hyn : y = n
    · subst hyn
      have e : (List.range y).filter (fun z => !upd s y z) = (List.range y).filter (fun z => !s z) := by
        apply List.filter_congr
        intro z hz; have := List.mem_range.1 hz; simp [upd, show z ≠ y by omega]
      rw [e]; simp [upd, h]
    · have := ih (by omega)
      have e : ([n].filter fun z => !upd s y z).length = ([n].filter fun z => !s z).length := by
        simp only [List.filter_cons, List.filter_nil, upd]; simp [Ne.symm hyn]
      omega
theorem Aad {n : Nat} {s s' : Nat → Bool} (h : ∀ z, s z = true → s' z = true) : Zs n s' ≤ Zs n s := by
  unfold Zs
  apply List.Sublist.length_le
  have : (List.range n).filter (fun z => !s' z) = ((List.range n).filter fun z => !s z).filter fun z => !s' z := by
    rw [List.filter_filter]
    apply List.filter_congr
    intro z _
    cases hs : s z with
    | false => simp
    | true => simp [h z hs]
  rw [this]; exact List.filter_sublist
theorem VL.exist {n : Nat} (hS : ∀ z, z < n → ∀ y ∈ S z, y < n) : ∀ (m : Nat) (s : Nat → Bool), Zs n s ≤ m → ∀ l : List Nat, (∀ y ∈ l, y < n) → ∃ s' o, VL S s l s' o := by
  intro m
  induction m with
  | zero =>
    intro s hm l
    induction l with
    | nil => intro _; exact ⟨s, [], .nil s⟩
    | cons y l ih =>
      intro hl; obtain ⟨s', o, h⟩ := ih (fun z hz => hl z (List.mem_cons_of_mem _ hz))
      cases hy : s y with
      | true => exact ⟨s', o, .skip hy h⟩
      | false => have := Og (hl y (List.mem_cons_self ..)) hy; omega
  | succ m ih =>
    intro s hm l
    induction l generalizing s with
    | nil => intro _; exact ⟨s, [], .nil s⟩
    | cons y l ihl =>
      intro hl
      cases hy : s y with
      | true =>
        obtain ⟨s', o, h⟩ := ihl s hm (fun z hz => hl z (List.mem_cons_of_mem _ hz)); exact ⟨s', o, .skip hy h⟩
      | false =>
        have hyn := hl y (List.mem_cons_self ..); have := Og hyn hy; obtain ⟨s1, o1, h1⟩ := ih (upd s y) (by omega) (S y) (hS y hyn); have h2 : Zs n s1 ≤ Zs n s := Aad fun z hz => (h1.seen z).2 (.inl (upd_true.2 (.inr hz))); obtain ⟨s2, o2, h3⟩ := ihl s1 (by omega) (fun z hz => hl z (List.mem_cons_of_mem _ hz)); exact ⟨s2, _, .step hy h1 h3⟩
def one (r : Nat) : Nat → Bool := fun z => decide (z = r)
def Ord (S : Nat → List Nat) (r : Nat) (L : List Nat) : Prop := ∃ s' o, VL S (one r) (S r) s' o ∧ L = r :: o.reverse
theorem Ord.exist {n : Nat} (hS : ∀ z, z < n → ∀ y ∈ S z, y < n) {r : Nat} (hr : r < n) : ∃ L, Ord S r L := by
  obtain ⟨s', o, h⟩ := VL.exist hS _ (one r) (Nat.le_refl _) (S r) (hS r hr); exact ⟨_, s', o, h, rfl⟩
theorem Ord.mem {r : Nat} {L : List Nat} (h : Ord S r L) (z : Nat) : z ∈ L ↔ Rch S r z := by
  obtain ⟨s', o, h, rfl⟩ := h
  have hs : ∀ z, s' z = true ↔ z = r ∨ z ∈ o := fun z => by rw [h.seen]; simp [one]
  have hc : ∀ x, s' x = true → ∀ y ∈ S x, s' y = true := fun x hx y hy => by
    rcases (hs x).1 hx with rfl | hx
    · exact h.closed.1 y hy
    · exact h.closed.2 x hx y hy
  simp only [List.mem_cons, List.mem_reverse]; rw [← hs z]
  constructor
  · intro hz; rcases (hs z).1 hz with rfl | hz
    · exact .refl _
    · obtain ⟨y, hy, hr⟩ := h.rch hz; exact .head hy hr
  · intro hr
    have key : ∀ x z, Rch S x z → s' x = true → s' z = true := by
      intro x z hxz
      induction hxz with
      | refl x => exact id
      | head hy _ ih => exact fun hx => ih (hc _ hx _ hy)
    exact key r z hr ((hs r).2 (.inl rfl))
theorem Ord.nodup {r : Nat} {L : List Nat} (h : Ord S r L) : L.Nodup := by
  obtain ⟨s', o, h, rfl⟩ := h; refine List.nodup_cons.2 ⟨fun hr => ?_, (List.reverse_perm o).nodup_iff.2 h.nodup⟩; have := h.fresh (List.mem_reverse.1 hr); simp [one] at this
theorem Ord.fwd {r : Nat} {L : List Nat} (h : Ord S r L) (hf : ∀ z, ∀ y ∈ S z, z < y) : ∀ z ∈ L, ∀ y ∈ S z, ∃ A B, L = A ++ z :: B ∧ y ∈ B := by
  obtain ⟨s', o, h, rfl⟩ := h; intro z hz y hy; have hzy := hf z y hy; rcases List.mem_cons.1 hz with rfl | hz
  · refine ⟨[], o.reverse, rfl, ?_⟩; rcases (h.seen y).1 (h.closed.1 y hy) with h1 | h1
    · simp [one] at h1; omega
    · exact List.mem_reverse.2 h1
  · have hz := List.mem_reverse.1 hz; have hrz : r < z := h.above hf (fun v hv => hf r v hv) z hz; rcases h.ahead hf z hz y hy with h1 | ⟨A, B, rfl, hA⟩
    · simp [one] at h1; omega
    · exact ⟨r :: B.reverse, A.reverse, by simp, List.mem_reverse.2 hA⟩
end
end Go.Proofs.Ytjdddniaokcgnaa

namespace Go.Proofs.Ytjdddniaokcgnaa
noncomputable section
open Go Go.RowKit
set_option linter.unusedVariables false
set_option linter.unusedSimpArgs false
theorem m_reverse (l : List Int) (hl : l.length < 4611686018427387904) : Db l = some l.reverse := by
  unfold Db
  by_cases h0 : l.length = 0
  · obtain rfl : l = [] := List.length_eq_zero_iff.1 h0
    have : Aw A8 ((0 : Int), (Bi ((([] : List Int).length : Int) - 1)), ([] : List Int)) = some [] := by
      apply A6
      unfold A8; rw [Kd (by simp) (by simp)]
      rfl
    rw [this]; rfl
  · have hw : Bi ((l.length : Int) - 1) = ((l.length - 1 : Nat) : Int) := by rw [Kd (by omega) (by omega)]; omega
    rw [hw]
    let C : Nat → List Int := fun k => (List.range l.length).map fun i => if i < k ∨ l.length - 1 - k < i then l.getD (l.length - 1 - i) 0 else l.getD i 0
    have hC : ∀ k i, i < l.length → (C k).getD i 0 = if i < k ∨ l.length - 1 - k < i then l.getD (l.length - 1 - i) 0 else l.getD i 0 := fun k i hi => by simp only [C]; rw [Ht hi]
    have hlen : ∀ k, (C k).length = l.length := fun k => by simp [C]
    have := Cy A8 (fun k => (((k : Nat) : Int), ((l.length - 1 - k : Nat) : Int), C k)) l.reverse (l.length / 2) (fun k hk => ?_) ?_
    · have e0 : C 0 = l := by
        apply List.ext_getElem (by simp [C])
        intro i h1 h2; have := hC 0 i h2; rw [As _ _ _ h1, As _ _ _ h2] at this; rw [this, if_neg (by omega)]
      have this' : Aw A8 ((0 : Int), ((l.length - 1 : Nat) : Int), l) = some l.reverse := by
        have h2 := this; simp only [e0] at h2; exact h2
      rw [this']; rfl
    · show A8 (_, _, _) = _
      unfold A8
      have hlt : k < l.length - 1 - k := by omega
      simp only [Cb hlt, cond_true, An]; rw [Ae (De (by rw [hlen]; omega)), Ae (De (by rw [hlen]; omega)), Ae (De (by rw [hlen]; omega)), Ae (De (by rw [hlen]; omega))]; rw [w1 (by omega), show Bi (((l.length - 1 - k : Nat) : Int) - 1) = ((l.length - 1 - (k + 1) : Nat) : Int) by rw [Kd (by omega) (by omega)]; omega]
      congr 4
      rw [hC k _ (by omega), hC k _ (by omega), if_neg (by omega), if_neg (by omega)]; simp only [C]; rw [Jm, Jm]
      apply Dp
      intro i hi
      by_cases h1 : i = k
      · subst h1; rw [if_neg (by omega), if_pos rfl, if_pos (by omega)]
      · by_cases h2 : i = l.length - 1 - k
        · subst h2; rw [if_pos rfl, if_pos (by omega)]
          congr 1; omega
        · rw [if_neg h2, if_neg h1]
          by_cases h3 : i < k ∨ l.length - 1 - k < i
          · rw [if_pos h3, if_pos (by omega)]
          · rw [if_neg h3, if_neg (by omega)]
    · show A8 (_, _, _) = _
      unfold A8; have hd : decide (((l.length / 2 : Nat) : Int) < ((l.length - 1 - l.length / 2 : Nat) : Int)) = false := decide_eq_false (by omega); simp only [hd, cond_false]
      congr 2
      apply List.ext_getElem (by simp [C])
      intro i h1 h2
      have h3 : i < l.length := by simpa [C] using h1
      have := hC (l.length / 2) i h3; rw [As _ _ _ h1] at this; rw [this, List.getElem_reverse]
      split
      · rw [As _ _ _ (by omega)]
      · rw [As _ _ _ h3]
        congr 1; omega
theorem top {st : List Int} {a : Int} (h : st.length < 4611686018427387904) : (st ++ [a]).getD (Bi (((st ++ [a]).length : Int) - 1)).toNat 0 = a := by
  have : Bi (((st ++ [a]).length : Int) - 1) = ((st.length : Nat) : Int) := by rw [List.length_append, List.length_singleton, Kd (by omega) (by omega)]; omega
  rw [this, An]; simp [List.getD]
theorem topi {st : List Int} {a : Int} (h : st.length < 4611686018427387904) : Bi (((st ++ [a]).length : Int) - 1) = ((st.length : Nat) : Int) := by
  rw [List.length_append, List.length_singleton, Kd (by omega) (by omega)]; omega
theorem L2_done {g : TGraph} {R : List Bool} {st T : List Int} {a : Nat} (hst : st.length < 64) (ha : a < g.Succ.length) (h64 : g.Succ.length ≤ 64) (ht : T.getD a 0 = ((g.Succ.getD a []).length : Int)) :
    Ey g R (st ++ [(a : Int)]) T = some (.done (.inl T)) := by
  unfold Ey; simp only [top (st := st) (a := (a : Int)) (by omega), An]; rw [Ae (De (by omega)), Ae (De ha), ht, Dh, cond_false]
theorem L2_step {g : TGraph} {R : List Bool} {st T : List Int} {a t y : Nat} (hst : st.length < 64) (ha : a < g.Succ.length) (h64 : g.Succ.length ≤ 64) (ht : T.getD a 0 = (t : Int)) (htl : t < (g.Succ.getD a []).length) (htm : t < 64)
    (hy : (g.Succ.getD a []).getD t 0 = (y : Int)) (hyn : y < g.Succ.length) :
    Ey g R (st ++ [(a : Int)]) T = bif R.getD y false then some (.next (Gj 64 (0 : Int) T a ((t + 1 : Nat) : Int))) else some (.done (.inr (Gj 64 false R y true, Gj 64 (0 : Int) T a ((t + 1 : Nat) : Int), (st ++ [(a : Int)]) ++ [(y : Int)]))) := by
  have hroom : (1000 : Nat) ≤ room := by decide
  unfold Ey; simp only [top (st := st) (a := (a : Int)) (by omega), An, ht, hy]; rw [Ae (De (by omega)), Ae (De ha), Cb htl, cond_true, Ae (De ha), Ae (De (by omega)), Ae (De htl), Ae (De (by omega)), Ae (De (by omega)), Ae (De (by omega)), w1 (by omega)]
  cases R.getD y false with
  | true => rfl
  | false =>
    simp only [Bool.not_false, cond_true, cond_false]; rw [Ae (De (by omega)), Ae (by rw [List.length_append, List.length_singleton, List.length_singleton]; omega)]
theorem F3_eq {g : TGraph} {R : List Bool} {st T Lf : List Int} {a : Nat} (hst : st.length < 64) (hLf : Lf.length < 64) :
    C0 g (R, T, st ++ [(a : Int)], Lf) = (Aw (Ey g R (st ++ [(a : Int)])) T).bind fun x => match x with
      | .inl T' => if st = [] then some (.done (Lf ++ [(a : Int)]).reverse) else some (.next (R, T', st, Lf ++ [(a : Int)]))
      | .inr (R', T', st') => some (.next (R', T', st', Lf)) := by
  have hroom : (1000 : Nat) ≤ room := by decide
  unfold C0; simp only
  have hb : A4 (Bi (((st ++ [(a : Int)]).length : Int) - 1)) (st ++ [(a : Int)]).length := by rw [topi (by omega)]; exact De (by simp)
  rw [Ae hb]
  congr 1
  funext x
  cases x with
  | inr y => obtain ⟨R', T', st'⟩ := y; rfl
  | inl T' =>
    simp only [top (st := st) (a := (a : Int)) (by omega)]; rw [topi (by omega), An, Ae (by rw [List.length_singleton]; omega), Ae ⟨by omega, by simp⟩]; have e : (st ++ [(a : Int)]).take st.length = st := List.take_left' rfl; rw [e]
    cases st with
    | nil =>
      rw [if_pos rfl]
      have : decide ((0 : Int) < (([] : List Int).length : Int)) = false := by decide
      rw [this, cond_false, m_reverse _ (by simp; omega)]; simp only [Option.bind_some]; rw [Ae (by simp)]
    | cons b st' =>
      rw [if_neg (by simp)]; have : decide ((0 : Int) < ((b :: st').length : Int)) = true := decide_eq_true (by simp <;> omega); rw [this, cond_true]
theorem loopO_from {S X : Type} {f : S → Option (LR S X)} {a b : S} (h : f a = f b) : Aw f a = Aw f b := by
  cases hb : f b with
  | none => rw [Pm (h.trans hb), Pm hb]
  | some r => cases r with
    | done x => rw [A6 (h.trans hb), A6 hb]
    | next s => rw [Bf (h.trans hb), Bf hb]
theorem Ky {S X : Type} {f : S → Option (LR S X)} {s : S} : Mp (f s) f = Aw f s := by
  unfold Mp
  cases hb : f s with
  | none => rw [Pm hb]; rfl
  | some r => cases r with
    | done x => rw [A6 hb]; rfl
    | next s' => rw [Bf hb]; rfl
def sN (L : List (List Int)) (k : Nat) : List Nat := (L.getD k []).map Int.toNat
def RelS (R : List Bool) (s : Nat → Bool) : Prop := ∀ z, z < 64 → R.getD z false = s z
theorem I4 {α : Type} {d : α} {l : List α} {i : Nat} {x : α} {k : Nat} (hk : k < 64) : (Gj 64 d l i x).getD k d = if k = i then x else l.getD k d := by
  rw [Xy hk]
  by_cases h : k = i
  · subst h; simp
  · have : Nat.beq k i = false := by cases hb : Nat.beq k i with | false => rfl | true => exact absurd (Nat.eq_of_beq_eq_true hb) h
    rw [this, if_neg h]; rfl
theorem RelS.set {R : List Bool} {s : Nat → Bool} (h : RelS R s) {y : Nat} : RelS (Gj 64 false R y true) (upd s y) := fun z hz => by
  rw [I4 hz, h z hz]
  by_cases hzy : z = y
  · simp [upd, hzy]
  · simp [upd, hzy]
def Ks (o : List Nat) : List Int := o.map Int.ofNat
theorem order_main {g : TGraph} (hm : Ec g.Succ = true) {s s' : Nat → Bool} {l o : List Nat} (hv : VL (sN g.Succ) s l s' o) :
    ∀ (R : List Bool) (T st Lf : List Int) (a t : Nat), RelS R s → a < g.Succ.length → l = (sN g.Succ a).drop t → T.getD a 0 = (t : Int) → t ≤ (sN g.Succ a).length → s a = true → (∀ z, z < 64 → s z = false → T.getD z 0 = 0) →
      Lf.length + Zs 64 s + st.length + 1 ≤ 64 →
      ∃ (R' : List Bool) (T' : List Int), RelS R' s' ∧ (∀ z, z < 64 → s' z = false → T'.getD z 0 = 0) ∧ (∀ z, z < 64 → s z = true → z ≠ a → T'.getD z 0 = T.getD z 0) ∧ Lf.length + o.length + Zs 64 s' + st.length + 1 ≤ 64 ∧
        Aw (C0 g) (R, T, st ++ [(a : Int)], Lf) = if st = [] then some (Lf ++ Ks o ++ [(a : Int)]).reverse else Aw (C0 g) (R', T', st, Lf ++ Ks o ++ [(a : Int)]) := by
  obtain ⟨hL1, hL64, hLok⟩ := mayS_iff.1 hm
  have hlenS : ∀ a, (sN g.Succ a).length = (g.Succ.getD a []).length := fun a => by simp [sN]
  have hdrop : ∀ (a t y : Nat) (l' : List Nat), a < g.Succ.length → y :: l' = (sN g.Succ a).drop t → t < (g.Succ.getD a []).length ∧ (g.Succ.getD a []).getD t 0 = (y : Int) ∧ y < g.Succ.length ∧ l' = (sN g.Succ a).drop (t + 1) := fun a t y l' ha he => by
    have ht : t < (sN g.Succ a).length := by
      rcases Nat.lt_or_ge t (sN g.Succ a).length with h | h
      · exact h
      · rw [List.drop_eq_nil_of_le h] at he; cases he
    rw [List.drop_eq_getElem_cons ht] at he; simp only [List.cons.injEq] at he; obtain ⟨h1, h2⟩ := he
    have ht' : t < (g.Succ.getD a []).length := by rw [← hlenS]; exact ht
    obtain ⟨b0, b1⟩ := Ob (hLok a ha) ht'
    have h3 : (sN g.Succ a)[t] = ((g.Succ.getD a []).getD t 0).toNat := by rw [As _ _ _ ht']; simp [sN]
    exact ⟨ht', by omega, by omega, h2⟩
  induction hv with
  | nil s =>
    intro R T st Lf a t hR ha hl hT htl hsa hz hc
    have ht : t = (g.Succ.getD a []).length := by
      have := congrArg List.length hl; simp at this; rw [hlenS] at htl this; omega
    refine ⟨R, T, hR, hz, fun _ _ _ _ => rfl, by simpa using hc, ?_⟩
    have hF : C0 g (R, T, st ++ [(a : Int)], Lf) = if st = [] then some (.done (Lf ++ [(a : Int)]).reverse) else some (.next (R, T, st, Lf ++ [(a : Int)])) := by
      rw [F3_eq (by omega) (by omega), A6 (L2_done (by omega) ha hL64 (by rw [hT, ht]))]
      rfl
    by_cases hst : st = []
    · rw [if_pos hst] at hF ⊢; rw [A6 hF]; simp [Ks]
    · rw [if_neg hst] at hF ⊢; rw [Bf hF]; simp [Ks]
  | @skip s s' y l o h tl ih =>
    intro R T st Lf a t hR ha hl hT htl hsa hz hc; obtain ⟨h1, h2, h3, h4⟩ := hdrop a t y l ha hl; have hb := Jy (hLok a ha); have hs := L2_step (g := g) (R := R) (st := st) (T := T) (a := a) (t := t) (y := y) (by omega) ha hL64 hT h1 (by omega) h2 h3; rw [hR y (by omega), h, cond_true] at hs; obtain ⟨R', T', a1, a2, a3, a4, a5⟩ := ih R (Gj 64 (0 : Int) T a ((t + 1 : Nat) : Int)) st Lf a (t + 1) hR ha h4 (by rw [I4 (by omega), if_pos rfl]) (by rw [hlenS]; omega) hsa
      (fun z hz1 hz2 => by rw [I4 hz1, if_neg (by rintro rfl; rw [hsa] at hz2; cases hz2)]; exact hz z hz1 hz2) hc
    refine ⟨R', T', a1, a2, fun z hz1 hz2 hz3 => by rw [a3 z hz1 hz2 hz3, I4 hz1, if_neg hz3], a4, ?_⟩; rw [← a5]
    apply loopO_from
    rw [F3_eq (by omega) (by omega), F3_eq (by omega) (by omega), Bf hs]
  | @step s s1 s2 y l o1 o2 h tl tr ih1 ih2 =>
    intro R T st Lf a t hR ha hl hT htl hsa hz hc; obtain ⟨h1, h2, h3, h4⟩ := hdrop a t y l ha hl; have hb := Jy (hLok a ha)
    have hay : y ≠ a := by rintro rfl; rw [hsa] at h; cases h
    have hs := L2_step (g := g) (R := R) (st := st) (T := T) (a := a) (t := t) (y := y) (by omega) ha hL64 hT h1 (by omega) h2 h3; rw [hR y (by omega), h, cond_false] at hs; have hcu := Og (n := 64) (show y < 64 by omega) h
    have hF : C0 g (R, T, st ++ [(a : Int)], Lf) = some (.next (Gj 64 false R y true, Gj 64 (0 : Int) T a ((t + 1 : Nat) : Int), (st ++ [(a : Int)]) ++ [(y : Int)], Lf)) := by
      rw [F3_eq (by omega) (by omega), A6 hs]
      rfl
    obtain ⟨R1, T1, b1, b2, b3, b4, b5⟩ := ih1 (Gj 64 false R y true) (Gj 64 (0 : Int) T a ((t + 1 : Nat) : Int)) (st ++ [(a : Int)]) Lf y 0 hR.set h3 (by simp)
      (by rw [I4 (by omega), if_neg hay]; exact hz y (by omega) h) (Nat.zero_le _) (upd_true.2 (.inl rfl))
      (fun z hz1 hz2 => by
        obtain ⟨c1, c2⟩ := upd_false.1 hz2; rw [I4 hz1, if_neg (by rintro rfl; rw [hsa] at c2; cases c2)]
        exact hz z hz1 c2) (by rw [List.length_append, List.length_singleton]; omega)
    rw [if_neg (by simp)] at b5
    have hTa : T1.getD a 0 = ((t + 1 : Nat) : Int) := by rw [b3 a (by omega) (upd_true.2 (.inr hsa)) (Ne.symm hay), I4 (by omega), if_pos rfl]
    rw [List.length_append, List.length_singleton] at b4; obtain ⟨R2, T2, c1, c2, c3, c4, c5⟩ := ih2 R1 T1 st (Lf ++ Ks o1 ++ [(y : Int)]) a (t + 1) b1 ha h4 hTa (by rw [hlenS]; omega) ((tl.seen a).2 (.inl (upd_true.2 (.inr hsa)))) b2
      (by simp only [List.length_append, List.length_singleton, Ks, List.length_map]; omega)
    refine ⟨R2, T2, c1, c2, fun z hz1 hz2 hz3 => ?_, ?_, ?_⟩
    · rw [c3 z hz1 ((tl.seen z).2 (.inl (upd_true.2 (.inr hz2)))) hz3, b3 z hz1 (upd_true.2 (.inr hz2)) (by rintro rfl; rw [h] at hz2; cases hz2), I4 hz1, if_neg hz3]
    · simp only [List.length_append, List.length_singleton, Ks, List.length_map, List.length_cons] at c4 ⊢; omega
    · rw [Bf hF, b5, c5]
      have e : Lf ++ Ks o1 ++ [(y : Int)] ++ Ks o2 ++ [(a : Int)] = Lf ++ Ks (o1 ++ y :: o2) ++ [(a : Int)] := by simp [Ks]
      rw [e]
theorem K9 {L : List (List Int)} (h : Ec L = true) : ∀ z, z < L.length → ∀ y ∈ sN L z, y < L.length := fun z hz y hy => by
  obtain ⟨_, _, h3⟩ := mayS_iff.1 h; obtain ⟨x, hx, rfl⟩ := List.mem_map.1 hy; have := K3 (h3 z hz) hx; omega
theorem cnt_one {r : Nat} (hr : r < 64) : Zs 64 (one r) = 63 := by
  have h := Og (n := 64) (s := fun _ => false) hr rfl
  have e : upd (fun _ => false) r = one r := by funext z; simp [upd, one]
  rw [e] at h
  have : Zs 64 (fun _ => false) = 64 := by decide
  omega
theorem Jb {α : Type} {n z : Nat} {d : α} : (List.replicate n d).getD z d = d := by rw [List.getD_eq_getElem?_getD, List.getElem?_replicate]; split <;> rfl
theorem Y4 (g : TGraph) (h : Fits g.Succ) (hP : True) (r : Int) :
    (Hn g = true → 0 ≤ r → r < (g.Succ.length : Int) → ∀ L, Ord (sN g.Succ) r.toNat L → Fb g r = some (Ks L)) ∧
    ((Hn g && (decide (0 ≤ r) && decide (r < (g.Succ.length : Int)))) = false → Fb g r = some []) := by
  refine ⟨fun hm h0 h1 L hL => ?_, fun hf => ?_⟩
  · have hms : Ec g.Succ = true := by unfold Hn at hm; exact (Bool.and_eq_true _ _ ▸ hm).1
    obtain ⟨hL1, hL64, hLok⟩ := mayS_iff.1 hms; obtain ⟨s', o, hv, rfl⟩ := hL; have hrn : ((r.toNat : Nat) : Int) = r := Int.toNat_of_nonneg h0
    have hr : r.toNat < g.Succ.length := by omega
    obtain ⟨R', T', _, _, _, _, hmain⟩ := order_main hms hv (Gj 64 false (List.replicate 64 false) r.toNat true) (List.replicate 64 (0 : Int)) [] [] r.toNat 0
      (fun z hz => by rw [I4 hz, Jb]; by_cases hzr : z = r.toNat <;> simp [one, hzr]) hr (by simp) Jb (Nat.zero_le _) (by simp [one])
      (fun z hz _ => Jb) (by rw [cnt_one (by omega)]; simp)
    rw [if_pos rfl, hrn] at hmain; unfold Fb; rw [m_may _ h, hm, Option.bind_some]; simp only [Bool.not_true, beq_self_eq_true, cond_true, cond_false, Oq, decide_eq_true h0, decide_eq_true h1, Bool.and_self, Option.bind_some]; rw [Ae ⟨h0, by omega⟩]; have hF : ∀ X, Aw (C0 g) (Gj 64 false (List.replicate 64 false) r.toNat true, List.replicate 64 (0 : Int), [] ++ [r], []) = some X →
        (Mp (C0 g (Gj 64 false (List.replicate 64 false) r.toNat true, List.replicate 64 (0 : Int), [r], [])) (C0 g)).bind (fun x => some x) = some X := fun X hX => by
      rw [Ky]; rw [List.nil_append] at hX; rw [hX]; rfl
    refine (hF _ hmain).trans ?_; simp only [List.nil_append, List.reverse_append, Ks, List.map_cons, List.map_reverse, List.reverse_cons, List.reverse_nil]
    simp
    omega
  · unfold Fb; rw [m_may _ h, Option.bind_some]
    cases hm : Hn g with
    | false => rfl
    | true =>
      rw [hm, Bool.true_and] at hf; simp only [Bool.not_true, beq_self_eq_true, cond_true, cond_false, Oq, hf, Option.bind_some, Bool.not_false]
      rfl
end
end Go.Proofs.Ytjdddniaokcgnaa

namespace Go.Proofs.Ytjdddniaokcgnaa
noncomputable section
open Go Go.RowKit
set_option linter.unusedVariables false
set_option linter.unusedSimpArgs false
def RelN (n : Nat) (R : List Bool) (s : Nat → Bool) : Prop := R.length = n ∧ ∀ z, z < n → R.getD z false = s z
theorem RelN.set {n : Nat} {R : List Bool} {s : Nat → Bool} (h : RelN n R s) {y : Nat} (hy : y < n) : RelN n (R.set y true) (upd s y) := by
  refine ⟨by rw [List.length_set]; exact h.1, fun z hz => ?_⟩; rw [List.getD_eq_getElem?_getD, List.getElem?_set]
  by_cases hzy : y = z
  · subst hzy; simp [upd, h.1, hy]
  · rw [if_neg hzy, ← List.getD_eq_getElem?_getD, h.2 z hz]; simp [upd, Ne.symm hzy]
theorem Ka : ∀ (n : Nat) (l : List Nat), l.Nodup → (∀ x ∈ l, x < n) → l.length ≤ n
  | 0, l, _, h => by
    cases l with
    | nil => simp
    | cons x l => have := h x (List.mem_cons_self ..); omega
  | n + 1, l, hd, h => by
    by_cases hn : n ∈ l
    · have h1 := Ka n (l.erase n) (hd.erase n) fun x hx => by
        have h2 := (hd.mem_erase_iff).1 hx; have := h x h2.2; have := h2.1; omega
      rw [List.length_erase_of_mem hn] at h1; omega
    · have h1 := Ka n l hd fun x hx => by
        have := h x hx
        have : x ≠ n := by rintro rfl; exact hn hx
        omega
      omega
end
end Go.Proofs.Ytjdddniaokcgnaa

namespace Go.Proofs.Ytjdddniaokcgnaa
noncomputable section
open Go Go.RowKit
set_option linter.unusedVariables false
set_option linter.unusedSimpArgs false
end
end Go.Proofs.Ytjdddniaokcgnaa

namespace Go.Proofs.Ytjdddniaokcgnaa
noncomputable section
open Go Go.RowKit
set_option linter.unusedVariables false
set_option linter.unusedSimpArgs false
theorem Ug : ∀ {a b : List Int}, a.Pairwise (· < ·) → b.Pairwise (· < ·) → (∀ x, x ∈ a ↔ x ∈ b) → a = b
  | [], [], _, _, _ => rfl
  | [], y :: b, _, _, h => by have := (h y).2 (List.mem_cons_self ..); cases this
  | x :: a, [], _, _, h => by have := (h x).1 (List.mem_cons_self ..); cases this
  | x :: a, y :: b, ha, hb, h => by
    have ha' := List.pairwise_cons.1 ha; have hb' := List.pairwise_cons.1 hb
    have hxy : x = y := by
      rcases List.mem_cons.1 ((h x).1 (List.mem_cons_self ..)) with h1 | h1
      · exact h1
      · rcases List.mem_cons.1 ((h y).2 (List.mem_cons_self ..)) with h2 | h2
        · exact h2.symm
        · have := ha'.1 y h2; have := hb'.1 x h1; omega
    subst hxy
    congr 1
    refine Ug ha'.2 hb'.2 fun z => ⟨fun hz => ?_, fun hz => ?_⟩
    · rcases List.mem_cons.1 ((h z).1 (List.mem_cons_of_mem _ hz)) with rfl | h1
      · have := ha'.1 z hz; omega
      · exact h1
    · rcases List.mem_cons.1 ((h z).2 (List.mem_cons_of_mem _ hz)) with rfl | h1
      · have := hb'.1 z hz; omega
      · exact h1
theorem Si (p : Nat → Bool) (n : Nat) : (((List.range n).filter p).map Int.ofNat).Pairwise (· < ·) := by
  rw [List.pairwise_map]; have := (List.pairwise_lt_range (n := n)).filter p
  exact this.imp fun h => by simpa using h
theorem mem_filt {p : Nat → Bool} {n : Nat} {x : Int} : x ∈ ((List.range n).filter p).map Int.ofNat ↔ ∃ k : Nat, x = (k : Int) ∧ k < n ∧ p k = true := by
  simp only [List.mem_map, List.mem_filter, List.mem_range]
  constructor
  · rintro ⟨k, ⟨h1, h2⟩, rfl⟩; exact ⟨k, rfl, h1, h2⟩
  · rintro ⟨k, rfl, h1, h2⟩; exact ⟨k, ⟨h1, h2⟩, rfl⟩
theorem goes_iff {L : List (List Int)} {k i : Nat} : F9 L k i = true ↔ (i : Int) ∈ L.getD k [] := by unfold F9; rw [List.contains_iff_mem]
theorem predAt_ok (L : List (List Int)) (i : Nat) : okL L.length (Eb L L.length i) = true :=
  okL_of (fun x hx => by obtain ⟨k, rfl, hk, _⟩ := mem_filt.1 hx; omega) (Si _ _)
theorem Oz {L : List (List Int)} (h : Ec L = true) : Ec (Bk L) = true := by
  obtain ⟨h1, h2, h3⟩ := mayS_iff.1 h; refine mayS_iff.2 ⟨by rw [Dg]; exact h1, by rw [Dg]; exact h2, fun i hi => ?_⟩; rw [Dg] at hi ⊢; rw [H3 hi]; exact predAt_ok L i
theorem pred_pred {L : List (List Int)} (h : Ec L = true) : Bk (Bk L) = L := by
  obtain ⟨h1, h2, h3⟩ := mayS_iff.1 h
  apply List.ext_getElem (by rw [Dg, Dg])
  intro i hi hi'
  have e1 : (Bk (Bk L))[i] = Eb (Bk L) L.length i := by
    have := H3 (L := Bk L) (i := i) (by rw [Dg]; exact hi'); rw [As _ _ _ hi, Dg] at this; exact this
  have e2 := As L i [] hi'; rw [e1, ← e2]; refine Ug (Si _ _) (Aag (h3 i hi')) fun x => ?_; rw [show Eb (Bk L) L.length i = ((List.range L.length).filter fun k => F9 (Bk L) k i).map Int.ofNat from rfl, mem_filt]
  constructor
  · rintro ⟨k, rfl, hk, hg⟩; rw [goes_iff, H3 hk] at hg; obtain ⟨j, hj, _, hg'⟩ := mem_filt.1 hg
    have : j = i := by omega
    subst this; exact goes_iff.1 hg'
  · intro hx; have hb := K3 (h3 i hi') hx; refine ⟨x.toNat, by omega, by omega, ?_⟩; rw [goes_iff, H3 (by omega)]; refine mem_filt.2 ⟨i, rfl, hi', ?_⟩; rw [goes_iff, Int.toNat_of_nonneg hb.1]; exact hx
theorem Sf {L : List (List Int)} (h : Ec L = true) : Hn ⟨Bk L, L⟩ = true := by
  simp [Hn, Oz h, pred_pred h]
theorem Xr {L : List (List Int)} (h : L.length ≤ maxLen) : L.length < 9223372036854775808 := by unfold maxLen at h; omega
end
end Go.Proofs.Ytjdddniaokcgnaa

namespace Go.Proofs.Ytjdddniaokcgnaa
noncomputable section
open Go Go.RowKit
set_option linter.unusedVariables false
set_option linter.unusedSimpArgs false
theorem rch_lt {L : List (List Int)} (h : Ec L = true) {x y : Nat} (hr : Rch (sN L) x y) (hx : x < L.length) : y < L.length := by
  induction hr with
  | refl x => exact hx
  | head hy _ ih => exact ih (K9 h _ hx _ hy)
theorem ofN_at {l : List Nat} {i : Nat} (hi : i < l.length) : (Ks l).getD i 0 = ((l[i] : Nat) : Int) := by simp [Ks, List.getD, hi]
end
end Go.Proofs.Ytjdddniaokcgnaa

namespace Go.Proofs.Ytjdddniaokcgnaa
noncomputable section
open Go Go.RowKit
set_option linter.unusedVariables false
set_option linter.unusedSimpArgs false
end
end Go.Proofs.Ytjdddniaokcgnaa

namespace Go.Proofs.Ytjdddniaokcgnaa
noncomputable section
open Go Go.RowKit
set_option linter.unusedVariables false
set_option linter.unusedSimpArgs false
def mk (o : List Bool) (l : List Nat) : List Bool := l.foldl (fun o y => o.set y true) o
theorem mk_len (l : List Nat) : ∀ o : List Bool, (mk o l).length = o.length := by
  induction l with
  | nil => intro o; rfl
  | cons y l ih => intro o; show (mk (o.set y true) l).length = _; rw [ih, List.length_set]
theorem mk_at {n : Nat} (l : List Nat) : ∀ (o : List Bool), o.length = n → (∀ y ∈ l, y < n) → ∀ z, (mk o l).getD z false = true ↔ o.getD z false = true ∨ z ∈ l := by
  induction l with
  | nil => intro o _ _ z; simp [mk]
  | cons y l ih =>
    intro o ho hl z
    show (mk (o.set y true) l).getD z false = true ↔ _
    rw [ih (o.set y true) (by rw [List.length_set]; exact ho) (fun u hu => hl u (List.mem_cons_of_mem _ hu)) z]; have hy := hl y (List.mem_cons_self ..)
    have e : (o.set y true).getD z false = true ↔ o.getD z false = true ∨ z = y := by
      rw [List.getD_eq_getElem?_getD, List.getElem?_set, List.getD_eq_getElem?_getD]
      by_cases h : y = z
      · subst h; simp [ho, hy]
      · simp [h, Ne.symm h]
    rw [e, List.mem_cons]
    constructor
    · rintro ((h | h) | h)
      · exact .inl h
      · exact .inr (.inl h)
      · exact .inr (.inr h)
    · rintro (h | h | h)
      · exact .inl (.inl h)
      · exact .inl (.inr h)
      · exact .inr h
def sw (S : Nat → List Nat) (o : List Bool) : Nat → List Bool
  | 0 => o
  | i + 1 => if (sw S o i).getD i false = true then mk (sw S o i) (S i) else sw S o i
def U7 (S : Nat → List Nat) (n : Nat) (o : List Bool) : Nat → List Bool
  | 0 => o
  | j + 1 => sw S (U7 S n o j) n
section
variable {S : Nat → List Nat} {n : Nat} (hS : ∀ z, z < n → ∀ y ∈ S z, y < n)
theorem Nv (o : List Bool) : ∀ i, (sw S o i).length = o.length := by
  intro i
  induction i with
  | zero => rfl
  | succ i ih => unfold sw; split; rw [mk_len, ih]; exact ih
theorem T4 (o : List Bool) : ∀ j, (U7 S n o j).length = o.length := by
  intro j
  induction j with
  | zero => rfl
  | succ j ih => unfold U7; rw [Nv, ih]
include hS
theorem Tx {o : List Bool} (ho : o.length = n) : ∀ i, i ≤ n → ∀ z, o.getD z false = true → (sw S o i).getD z false = true := by
  intro i
  induction i with
  | zero => intro _ z h; exact h
  | succ i ih =>
    intro hi z h; unfold sw
    split
    · exact (mk_at (n := n) _ _ (by rw [Nv]; exact ho) (hS i (by omega)) z).2 (.inl (ih (by omega) z h))
    · exact ih (by omega) z h
theorem sw_sound {o : List Bool} {r : Nat} (ho : o.length = n) (h : ∀ z, o.getD z false = true → Rch S r z) : ∀ i, i ≤ n → ∀ z, (sw S o i).getD z false = true → Rch S r z := by
  intro i
  induction i with
  | zero => intro _ z hz; exact h z hz
  | succ i ih =>
    intro hi z hz; unfold sw at hz
    split at hz
    · rename_i hsi
      rcases (mk_at (n := n) _ _ (by rw [Nv]; exact ho) (hS i (by omega)) z).1 hz with h1 | h1
      · exact ih (by omega) z h1
      · exact (ih (by omega) i hsi).tail h1
    · exact ih (by omega) z hz
theorem sw_step {o : List Bool} (ho : o.length = n) : ∀ i, i ≤ n → ∀ j, j < i → o.getD j false = true → ∀ y ∈ S j, (sw S o i).getD y false = true := by
  intro i
  induction i with
  | zero => intro _ j hj; omega
  | succ i ih =>
    intro hi j hj hoj y hy; unfold sw
    by_cases hji : j = i
    · subst hji; have h1 := Tx hS ho j (by omega) j hoj; rw [if_pos h1]; exact (mk_at (n := n) _ _ (by rw [Nv]; exact ho) (hS j (by omega)) y).2 (.inr hy)
    · have h1 := ih (by omega) j (by omega) hoj y hy
      split
      · exact (mk_at (n := n) _ _ (by rw [Nv]; exact ho) (hS i (by omega)) y).2 (.inl h1)
      · exact h1
theorem sw_closed {o : List Bool} (ho : o.length = n) (hc : ∀ j, j < n → o.getD j false = true → ∀ y ∈ S j, o.getD y false = true) : ∀ i, i ≤ n → ∀ z, (sw S o i).getD z false = true → o.getD z false = true := by
  intro i
  induction i with
  | zero => intro _ z h; exact h
  | succ i ih =>
    intro hi z hz; unfold sw at hz
    split at hz
    · rename_i hsi
      rcases (mk_at (n := n) _ _ (by rw [Nv]; exact ho) (hS i (by omega)) z).1 hz with h1 | h1
      · exact ih (by omega) z h1
      · exact hc i (by omega) (ih (by omega) i hsi) z h1
    · exact ih (by omega) z hz
theorem Aam {r : Nat} (hr : r < n) (z : Nat) : (U7 S n ((List.replicate n false).set r true) n).getD z false = true ↔ Rch S r z := by
  let o0 := (List.replicate n false).set r true
  have ho0 : o0.length = n := by simp [o0]
  have hat0 : ∀ z, o0.getD z false = true ↔ z = r := fun z => by
    show ((List.replicate n false).set r true).getD z false = true ↔ z = r
    rw [List.getD_eq_getElem?_getD, List.getElem?_set]
    by_cases h : r = z
    · subst h; simp [hr]
    · rw [if_neg h, ← List.getD_eq_getElem?_getD, Jb]; simp [Ne.symm h]
  have hlen : ∀ j, (U7 S n o0 j).length = n := fun j => by rw [T4, ho0]
  have hsound : ∀ j z, (U7 S n o0 j).getD z false = true → Rch S r z := by
    intro j
    induction j with
    | zero => intro z hz; rw [(hat0 z).1 hz]; exact .refl _
    | succ j ih => intro z hz; exact sw_sound hS (hlen j) ih n (Nat.le_refl _) z hz
  have hmono : ∀ j, ∀ z, o0.getD z false = true → (U7 S n o0 j).getD z false = true := by
    intro j
    induction j with
    | zero => intro z h; exact h
    | succ j ih => intro z h; exact Tx hS (hlen j) n (Nat.le_refl _) z (ih z h)
  let C : Nat → Prop := fun j => ∀ i, i < n → (U7 S n o0 j).getD i false = true → ∀ y ∈ S i, (U7 S n o0 j).getD y false = true
  have key : ∀ j, C j ∨ Zs n (fun z => (U7 S n o0 j).getD z false) + j + 1 ≤ n := by
    intro j
    induction j with
    | zero =>
      refine .inr ?_; have h1 := Og (n := n) (s := fun _ => false) hr rfl
      have e : upd (fun _ => false) r = fun z => (U7 S n o0 0).getD z false := by
        funext z
        rw [Bool.eq_iff_iff, upd_true]
        show _ ↔ o0.getD z false = true
        rw [hat0]
        simp
      rw [e] at h1
      have hcl : Zs n (fun _ => false) = n := by
        unfold Zs; rw [List.filter_eq_self.2 (by simp)]
        simp
      omega
    | succ j ih =>
      by_cases hc : C j
      · refine .inl fun i hi h y hy => ?_; have h1 := sw_closed hS (hlen j) hc n (Nat.le_refl _) i h; exact Tx hS (hlen j) n (Nat.le_refl _) y (hc i hi h1 y hy)
      · rcases ih with ih | ih
        · exact (hc ih).elim
        · refine .inr ?_
          have hex : ∃ i, i < n ∧ (U7 S n o0 j).getD i false = true ∧ ∃ y, y ∈ S i ∧ (U7 S n o0 j).getD y false = false := by
            simp only [C] at hc; simp only [Classical.not_forall] at hc; obtain ⟨i, hi, h1, y, hy, h2⟩ := hc; exact ⟨i, hi, h1, y, hy, by simpa using h2⟩
          obtain ⟨i, hi, h1, y, hy, h2⟩ := hex; have h3 := sw_step hS (hlen j) n (Nat.le_refl _) i hi h1 y hy; have hyn := hS i hi y hy; have h4 := Og (n := n) (s := fun z => (U7 S n o0 j).getD z false) hyn h2
          have h5 : Zs n (fun z => (U7 S n o0 (j + 1)).getD z false) ≤ Zs n (upd (fun z => (U7 S n o0 j).getD z false) y) := Aad fun z hz => by
            rcases upd_true.1 hz with rfl | hz
            · exact h3
            · exact Tx hS (hlen j) n (Nat.le_refl _) z hz
          omega
  have hC : C n := by
    rcases key n with h | h
    · exact h
    · omega
  constructor
  · exact hsound n z
  · intro hrch
    have hlt : ∀ x z, Rch S x z → x < n → z < n ∧ ((U7 S n o0 n).getD x false = true → (U7 S n o0 n).getD z false = true) := by
      intro x z hxz
      induction hxz with
      | refl x => exact fun hx => ⟨hx, id⟩
      | @head x y z hy _ ih =>
        intro hx; have := ih (hS x hx y hy); exact ⟨this.1, fun h => this.2 (hC x hx h y hy)⟩
    exact (hlt r z hrch hr).2 (hmono n r ((hat0 r).2 rfl))
end
end
end Go.Proofs.Ytjdddniaokcgnaa

namespace Go.Proofs.Ytjdddniaokcgnaa
noncomputable section
open Go Go.RowKit
set_option linter.unusedVariables false
set_option linter.unusedSimpArgs false
def pos : List Nat → Nat → Nat
  | [], _ => 0
  | x :: l, z => if x = z then 0 else pos l z + 1
theorem Vm (x : Nat) (l : List Nat) (z : Nat) : pos (x :: l) z = if x = z then 0 else pos l z + 1 := rfl
theorem pos_app {A l : List Nat} {z : Nat} (h : z ∉ A) : pos (A ++ l) z = A.length + pos l z := by
  induction A with
  | nil => simp
  | cons x A ih =>
    have h1 : x ≠ z := fun e => h (by rw [e]; exact List.mem_cons_self ..); have h2 : z ∉ A := fun e => h (List.mem_cons_of_mem _ e); rw [List.cons_append, Vm, if_neg h1, ih h2, List.length_cons]; omega
theorem Tu {P : List Nat} (hd : P.Nodup) {i : Nat} (hi : i < P.length) : P[i] ∉ P.take i ∧ pos P P[i] = i := by
  have e : P = P.take i ++ P[i] :: P.drop (i + 1) := by rw [← List.drop_eq_getElem_cons hi, List.take_append_drop]
  have hn : P[i] ∉ P.take i := by
    rw [e] at hd; have := (List.nodup_append.1 hd).2.2; exact fun hm => this _ hm _ (List.mem_cons_self ..) rfl
  refine ⟨hn, ?_⟩
  have h2 : pos (P.take i ++ P[i] :: P.drop (i + 1)) P[i] = i := by
    rw [pos_app hn]
    have : pos (P[i] :: P.drop (i + 1)) P[i] = 0 := by rw [Vm, if_pos rfl]
    rw [this, List.length_take]; omega
  rw [← e] at h2; exact h2
end
end Go.Proofs.Ytjdddniaokcgnaa

namespace Go.Proofs.Ytjdddniaokcgnaa
noncomputable section
open Go Go.RowKit
set_option linter.unusedVariables false
set_option linter.unusedSimpArgs false
inductive Rc (S : Nat → List Nat) (r : Nat) : Nat → Prop
  | root : Rc S r r
  | step {x y : Nat} (h : Rc S r x) (hy : y ∈ S x) : Rc S r y
inductive Av (S : Nat → List Nat) (r z : Nat) : Nat → Prop
  | root (h : r ≠ z) : Av S r z r
  | step {x y : Nat} (h : Av S r z x) (hy : y ∈ S x) (hz : y ≠ z) : Av S r z y
inductive AvN (S : Nat → List Nat) (r z : Nat) : Nat → Nat → Prop
  | root (h : r ≠ z) (k : Nat) : AvN S r z k r
  | step {k x y : Nat} (h : AvN S r z k x) (hy : y ∈ S x) (hz : y ≠ z) : AvN S r z (k + 1) y
section
variable {S : Nat → List Nat} {r : Nat}
theorem rc_iff {x : Nat} : Rc S r x ↔ Rch S r x := by
  constructor
  · intro h
    induction h with
    | root => exact .refl _
    | step _ hy ih => exact ih.tail hy
  · intro h
    have key : ∀ a b, Rch S a b → Rc S r a → Rc S r b := by
      intro a b hab
      induction hab with
      | refl x => exact id
      | head hy _ ih => exact fun ha => ih (.step ha hy)
    exact key _ _ h .root
def wo (S : Nat → List Nat) (z : Nat) : Nat → List Nat := fun x => (S x).filter fun y => decide (y ≠ z)
theorem av_iff {z x : Nat} : Av S r z x ↔ r ≠ z ∧ Rch (wo S z) r x := by
  constructor
  · intro h
    induction h with
    | root h => exact ⟨h, .refl _⟩
    | step _ hy hz ih => exact ⟨ih.1, ih.2.tail (List.mem_filter.2 ⟨hy, by simpa using hz⟩)⟩
  · rintro ⟨hr, h⟩
    have key : ∀ a b, Rch (wo S z) a b → Av S r z a → Av S r z b := by
      intro a b hab
      induction hab with
      | refl x => exact id
      | head hy _ ih =>
        obtain ⟨h1, h2⟩ := List.mem_filter.1 hy; exact fun ha => ih (.step ha h1 (by simpa using h2))
    exact key _ _ h (.root hr)
theorem Av.rc {z x : Nat} (h : Av S r z x) : Rc S r x := by
  induction h with
  | root _ => exact .root
  | step _ hy _ ih => exact .step ih hy
theorem Av.ne {z x : Nat} (h : Av S r z x) : x ≠ z := by
  cases h with
  | root h => exact h
  | step _ _ hz => exact hz
theorem AvN.av {z k x : Nat} (h : AvN S r z k x) : Av S r z x := by
  induction h with
  | root h => exact .root h
  | step _ hy hz ih => exact .step ih hy hz
theorem AvN.up {z k x : Nat} (h : AvN S r z k x) : AvN S r z (k + 1) x := by
  induction h with
  | root h k => exact .root h _
  | step _ hy hz ih => exact .step ih hy hz
theorem AvN.mono {z k m x : Nat} (h : AvN S r z k x) (hm : k ≤ m) : AvN S r z m x := by
  obtain ⟨d, rfl⟩ := Nat.exists_eq_add_of_le hm; clear hm
  induction d with
  | zero => exact h
  | succ d ih => exact ih.up
theorem Av.avn {z x : Nat} (h : Av S r z x) : ∃ k, AvN S r z k x := by
  induction h with
  | root h => exact ⟨0, .root h 0⟩
  | step _ hy hz ih => obtain ⟨k, hk⟩ := ih; exact ⟨k + 1, .step hk hy hz⟩
theorem AvN.via {z k x : Nat} (h : AvN S r z k x) (y : Nat) : AvN S r y k x ∨ AvN S r z k y := by
  induction h with
  | root h k => by_cases hy : r = y
                · subst hy; exact .inr (.root h _)
                · exact .inl (.root hy _)
  | @step k x w h hy hz ih =>
    rcases ih with h1 | h1
    · by_cases hw : w = y
      · subst hw; exact .inr (.step h hy hz)
      · exact .inl (.step h1 hy hw)
    · exact .inr h1.up
theorem avn_bound (n : Nat) : ∃ K, ∀ z, z < n → ∀ x, x < n → Av S r z x → AvN S r z K x := by
  have one : ∀ z m, ∃ K, ∀ x, x < m → Av S r z x → AvN S r z K x := by
    intro z m
    induction m with
    | zero => exact ⟨0, fun x hx => absurd hx (Nat.not_lt_zero x)⟩
    | succ m ih =>
      obtain ⟨K, hK⟩ := ih
      by_cases h : Av S r z m
      · obtain ⟨k, hk⟩ := h.avn; refine ⟨max K k, fun x hx ha => ?_⟩; rcases Nat.lt_succ_iff_lt_or_eq.1 hx with h1 | rfl
        · exact (hK x h1 ha).mono (Nat.le_max_left ..)
        · exact hk.mono (Nat.le_max_right ..)
      · refine ⟨K, fun x hx ha => ?_⟩; rcases Nat.lt_succ_iff_lt_or_eq.1 hx with h1 | rfl
        · exact hK x h1 ha
        · exact absurd ha h
  have two : ∀ m, ∃ K, ∀ z, z < m → ∀ x, x < n → Av S r z x → AvN S r z K x := by
    intro m
    induction m with
    | zero => exact ⟨0, fun x hx => absurd hx (Nat.not_lt_zero x)⟩
    | succ m ih =>
      obtain ⟨K, hK⟩ := ih; obtain ⟨k, hk⟩ := one m n; refine ⟨max K k, fun z hz x hx ha => ?_⟩; rcases Nat.lt_succ_iff_lt_or_eq.1 hz with h1 | rfl
      · exact (hK z h1 x hx ha).mono (Nat.le_max_left ..)
      · exact (hk x hx ha).mono (Nat.le_max_right ..)
  exact two n
end
inductive UpTo (par : Nat → Int) : Nat → Nat → Prop
  | refl (x : Nat) : UpTo par x x
  | up {x y z : Nat} (h : par x = (y : Int)) (t : UpTo par y z) : UpTo par x z
inductive Fw (S : Nat → List Nat) (at_ : Nat → Nat) (u : Nat) : Nat → Prop
  | refl : Fw S at_ u u
  | step {v w : Nat} (h : Fw S at_ u v) (hw : w ∈ S v) (hl : at_ v < at_ w) : Fw S at_ u w
section
variable {S : Nat → List Nat} {at_ : Nat → Nat} {par : Nat → Int}
theorem Fw.le {u w : Nat} (h : Fw S at_ u w) : at_ u ≤ at_ w := by
  induction h with
  | refl => exact Nat.le_refl _
  | step _ _ hl ih => omega
theorem Fw.trans {u v w : Nat} (h : Fw S at_ u v) (k : Fw S at_ v w) : Fw S at_ u w := by
  induction k with
  | refl => exact h
  | step _ hw hl ih => exact .step ih hw hl
theorem Fw.av {r d u w : Nat} (h : Fw S at_ u w) (ha : Av S r d u) (hd : at_ d < at_ u) : Av S r d w := by
  induction h with
  | refl => exact ha
  | @step v w h hw hl ih => exact .step ih hw (by rintro rfl; have := h.le; omega)
theorem UpTo.trans {x y z : Nat} (h : UpTo par x y) (k : UpTo par y z) : UpTo par x z := by
  induction h with
  | refl x => exact k
  | up h _ ih => exact .up h (ih k)
theorem anc_up {x p z : Nat} (h : par x = (p : Int)) : UpTo par x z ↔ z = x ∨ UpTo par p z := by
  constructor
  · intro k
    cases k with
    | refl => exact .inl rfl
    | up h' t => rw [h] at h'; cases Int.ofNat.inj h'; exact .inr t
  · rintro (rfl | k)
    · exact .refl _
    · exact .up h k
theorem Tv {x z : Nat} (h : ∀ p : Nat, par x ≠ (p : Int)) : UpTo par x z ↔ z = x := by
  constructor
  · intro k
    cases k with
    | refl => rfl
    | up h' t => exact absurd h' (h _)
  · rintro rfl; exact .refl _
structure Inv (S : Nat → List Nat) (r n : Nat) (at_ : Nat → Nat) (par : Nat → Int) : Prop where
  top : par r = -1
  kind : ∀ x, x < n → par x = -2 ∨ x = r ∨ ∃ z : Nat, par x = (z : Int)
  up : ∀ x, x < n → ∀ z : Nat, par x = (z : Int) → z < n ∧ par z ≠ -2 ∧ at_ z < at_ x ∧ Fw S at_ z x
  rc : ∀ x, x < n → par x ≠ -2 → Rc S r x
  all : ∀ x, x < n → par x ≠ -2 → ∀ d, ¬ UpTo par x d → Av S r d x
end
section
variable {S : Nat → List Nat} {at_ : Nat → Nat} {par : Nat → Int} {r n : Nat}
theorem Inv.anc (h : Inv S r n at_ par) {x z : Nat} (k : UpTo par x z) (hx : x < n) (hp : par x ≠ -2) : z < n ∧ par z ≠ -2 ∧ at_ z ≤ at_ x ∧ Fw S at_ z x := by
  induction k with
  | refl x => exact ⟨hx, hp, Nat.le_refl _, .refl⟩
  | @up x y z hxy t ih =>
    obtain ⟨h1, h2, h3, h4⟩ := h.up x hx y hxy; obtain ⟨i1, i2, i3, i4⟩ := ih h1 h2; exact ⟨i1, i2, by omega, i4.trans h4⟩
theorem Inv.root_anc (h : Inv S r n at_ par) {z : Nat} : UpTo par r z ↔ z = r := Tv fun p hp => by rw [h.top] at hp; omega
theorem Inv.strict (h : Inv S r n at_ par) {x z : Nat} (k : UpTo par x z) (hx : x < n) (hp : par x ≠ -2) : z = x ∨ at_ z < at_ x := by
  cases k with
  | refl => exact .inl rfl
  | up hxy t =>
    obtain ⟨h1, h2, h3, h4⟩ := h.up x hx _ hxy; obtain ⟨i1, i2, i3, i4⟩ := h.anc t h1 h2; exact .inr (by omega)
theorem Inv.antisymm (h : Inv S r n at_ par) {x z : Nat} (k : UpTo par x z) (m : UpTo par z x) (hx : x < n) (hp : par x ≠ -2) : z = x := by
  rcases h.strict k hx hp with rfl | h1
  · rfl
  · obtain ⟨i1, i2, i3, i4⟩ := h.anc k hx hp; have := (h.anc m i1 i2).2.2.1; omega
def MeetAt (par : Nat → Int) (a b m : Nat) : Prop := ∀ w, UpTo par m w ↔ UpTo par a w ∧ UpTo par b w
theorem W8 {a : Nat} : MeetAt par a a a := fun w => by simp
theorem meet_swap {a b m : Nat} (h : MeetAt par a b m) : MeetAt par b a m := fun w => by rw [h w]; exact And.comm
theorem Inv.meet_left (h : Inv S r n at_ par) (hinj : ∀ x y, x < n → y < n → par x ≠ -2 → par y ≠ -2 → at_ x = at_ y → x = y) {a b p m : Nat} (ha : a < n) (hpa : par a ≠ -2) (hb : b < n) (hpb : par b ≠ -2) (hab : a ≠ b) (hl : at_ b ≤ at_ a) (hp : par a = (p : Int)) (k : MeetAt par p b m) : MeetAt par a b m := fun w => by
  rw [k w]
  constructor
  · rintro ⟨h1, h2⟩; exact ⟨.up hp h1, h2⟩
  · rintro ⟨h1, h2⟩; rcases (anc_up hp).1 h1 with rfl | h1
    · exfalso
      rcases h.strict h2 hb hpb with h3 | h3
      · exact hab h3
      · omega
    · exact ⟨h1, h2⟩
end
section
variable {S : Nat → List Nat} {at_ : Nat → Nat} {par : Nat → Int} {r n : Nat}
def Id (par : Nat → Int) (y : Nat) (v : Int) : Nat → Int := fun x => if x = y then v else par x
def Best (S : Nat → List Nat) (n : Nat) (par : Nat → Int) (y z : Nat) : Prop := ∀ w, UpTo par z w ↔ ∀ p, p < n → y ∈ S p → par p ≠ -2 → UpTo par p w
theorem Ss {y : Nat} {v : Int} {x z : Nat} (k : UpTo par x z) (hy : ¬ UpTo par x y) : UpTo (Id par y v) x z := by
  induction k with
  | refl x => exact .refl _
  | @up x q z h t ih =>
    have hxy : x ≠ y := by rintro rfl; exact hy (.refl _)
    refine .up (y := q) ?_ (ih fun k => hy (.up h k)); unfold Id; rw [if_neg hxy]; exact h
theorem Abk {y : Nat} {v : Int} {x : Nat} (k : UpTo par x y) : UpTo (Id par y v) x y := by
  induction k with
  | refl x => exact .refl _
  | @up x q z h t ih =>
    by_cases hxy : x = z
    · subst hxy; exact .refl _
    · refine .up (y := q) ?_ ih; unfold Id; rw [if_neg hxy]; exact h
theorem anc_upd_inv {y : Nat} {v : Int} {x w : Nat} (k : UpTo (Id par y v) x w) : UpTo par x w ∨ (UpTo par x y ∧ UpTo (Id par y v) y w) := by
  induction k with
  | refl x => exact .inl (.refl _)
  | @up x q w h t ih =>
    by_cases hxy : x = y
    · subst hxy; exact .inr ⟨.refl _, .up h t⟩
    · unfold Id at h; rw [if_neg hxy] at h; rcases ih with h1 | ⟨h1, h2⟩
      · exact .inl (.up h h1)
      · exact .inr ⟨.up h h1, h2⟩
theorem low_or {y : Nat} {v : Int} {x d : Nat} (k : UpTo par x y) (hd : UpTo par x d) : UpTo par y d ∨ UpTo (Id par y v) x d := by
  induction k with
  | refl x => exact .inl hd
  | @up x q y hq t ih =>
    by_cases e : x = y
    · subst e; exact .inl hd
    · rcases (anc_up hq).1 hd with rfl | k
      · exact .inr (.refl _)
      · rcases ih k with h1 | h1
        · exact .inl h1
        · exact .inr (.up (y := q) (by unfold Id; rw [if_neg e]; exact hq) h1)
structure Better (S : Nat → List Nat) (r n : Nat) (at_ : Nat → Nat) (par : Nat → Int) (y z : Nat) : Prop where
  inv : Inv S r n at_ par
  hy : y < n
  hr : y ≠ r
  hz : z < n
  best : Best S n par y z
  fwd : ∃ p, p < n ∧ y ∈ S p ∧ par p ≠ -2 ∧ at_ p < at_ y
variable {y z : Nat}
theorem Better.zlt (h : Better S r n at_ par y z) : UpTo par z z ∧ par z ≠ -2 ∧ at_ z < at_ y ∧ Fw S at_ z y := by
  obtain ⟨p, hp, hyp, hpp, hl⟩ := h.fwd; obtain ⟨h1, h2, h3, h4⟩ := h.inv.anc ((h.best z).1 (.refl _) p hp hyp hpp) hp hpp; exact ⟨.refl _, h2, by omega, .step h4 hyp hl⟩
theorem Better.above (h : Better S r n at_ par y z) {w : Nat} : UpTo (Id par y z) z w ↔ UpTo par z w := by
  obtain ⟨_, h2, h3, _⟩ := h.zlt
  have hn : ¬ UpTo par z y := fun k => by have := (h.inv.anc k h.hz h2).2.2.1; omega
  constructor
  · intro k; rcases anc_upd_inv k with h1 | ⟨h1, _⟩
    · exact h1
    · exact absurd h1 hn
  · intro k; exact Ss k hn
theorem Better.here (h : Better S r n at_ par y z) {w : Nat} : UpTo (Id par y z) y w ↔ w = y ∨ UpTo par z w := by
  rw [anc_up (p := z) (by simp [Id]), h.above]
theorem Better.av_here (h : Better S r n at_ par y z) {d : Nat} (hd : ¬ UpTo (Id par y z) y d) : Av S r d y := by
  rw [h.here] at hd; have h1 : ¬ ∀ p, p < n → y ∈ S p → par p ≠ -2 → UpTo par p d := fun hh => hd (.inr ((h.best d).2 hh)); simp only [Classical.not_forall] at h1; obtain ⟨p, hp, hyp, hpp, hnp⟩ := h1; exact .step (h.inv.all p hp hpp d hnp) hyp fun e => hd (.inl e.symm)
theorem Better.inv' (h : Better S r n at_ par y z) : Inv S r n at_ (Id par y z) := by
  obtain ⟨hzz, hz2, hzl, hzf⟩ := h.zlt; obtain ⟨p, hp, hyp, hpp, hl⟩ := h.fwd
  have hne : ∀ x, Id par y z x ≠ -2 → x = y ∨ par x ≠ -2 := fun x hx => by
    by_cases e : x = y
    · exact .inl e
    · unfold Id at hx; rw [if_neg e] at hx; exact .inr hx
  have hyv : Id par y z y = (z : Int) := by simp [Id]
  have hyo : ∀ x, x ≠ y → Id par y z x = par x := fun x e => by unfold Id; rw [if_neg e]
  refine ⟨by rw [hyo _ (Ne.symm h.hr)]; exact h.inv.top, fun x hx => ?_, fun x hx w hw => ?_, fun x hx hxp => ?_, fun x hx hxp d hd => ?_⟩
  · by_cases e : x = y
    · subst e; exact .inr (.inr ⟨z, hyv⟩)
    · rw [hyo x e]; exact h.inv.kind x hx
  · have hzn : ∀ w, par w ≠ -2 → Id par y z w ≠ -2 := fun w hw => by
      by_cases e : w = y
      · subst e; rw [hyv]; omega
      · rw [hyo w e]; exact hw
    by_cases e : x = y
    · subst e; rw [hyv] at hw
      cases Int.ofNat.inj hw
      exact ⟨h.hz, hzn _ hz2, hzl, hzf⟩
    · rw [hyo x e] at hw; obtain ⟨h1, h2, h3, h4⟩ := h.inv.up x hx w hw; exact ⟨h1, hzn _ h2, h3, h4⟩
  · rcases hne x hxp with rfl | h1
    · exact .step (h.inv.rc p hp hpp) hyp
    · exact h.inv.rc x hx h1
  · by_cases e : x = y
    · subst e; exact h.av_here hd
    · rw [hyo x e] at hxp
      by_cases hxd : UpTo par x d
      ·
        by_cases hxy : UpTo par x y
        · have hyd : ¬ UpTo (Id par y z) y d := fun k => hd ((Abk hxy).trans k); have hav := h.av_here hyd; have hf := (h.inv.anc hxy hx hxp).2.2.2
          have hdy : UpTo par y d := by
            rcases low_or (v := (z : Int)) hxy hxd with h1 | h1
            · exact h1
            · exact absurd h1 hd
          by_cases hpy : par y = -2
          ·
            have : d = y := by
              refine (Tv (par := par) fun p hp => ?_).1 hdy; rw [hpy] at hp; omega
            subst this; exact absurd (.refl _) hyd
          · rcases h.inv.strict hdy h.hy hpy with rfl | hlt
            · exact absurd (.refl _) hyd
            · exact hf.av hav hlt
        · exact absurd (Ss hxd hxy) hd
      · exact h.inv.all x hx hxp d hxd
end
end
end Go.Proofs.Ytjdddniaokcgnaa

namespace Go.Proofs.Ytjdddniaokcgnaa
noncomputable section
open Go Go.RowKit
set_option linter.unusedVariables false
set_option linter.unusedSimpArgs false
section
variable {S : Nat → List Nat} {at_ : Nat → Nat} {par : Nat → Int} {r n : Nat}
def QB (S : Nat → List Nat) (r n : Nat) (par : Nat → Int) (b : Nat → Nat) : Prop := ∀ x, x < n → par x ≠ -2 → ∀ z, AvN S r z (b x) x → ¬ UpTo par x z
def Full (S : Nat → List Nat) (r n : Nat) (par : Nat → Int) : Prop := ∀ x, x < n → Rc S r x → par x ≠ -2
def Exact (S : Nat → List Nat) (r n : Nat) (par : Nat → Int) : Prop := ∀ x, x < n → par x ≠ -2 → ∀ d, UpTo par x d ↔ ¬ Av S r d x
theorem qb_zero (h : Inv S r n at_ par) : QB S r n par fun _ => 0 := fun x hx hp z hz k => by
  cases hz with
  | root hr _ => exact hr (h.root_anc.1 k).symm
theorem rc_lt (hS : ∀ x, x < n → ∀ w ∈ S x, w < n) (hr : r < n) {x : Nat} (h : Rc S r x) : x < n := by
  induction h with
  | root => exact hr
  | step _ hy ih => exact hS _ ih _ hy
theorem Better.qb {y z k : Nat} {b : Nat → Nat} (h : Better S r n at_ par y z) (hS : ∀ x, x < n → ∀ w ∈ S x, w < n) (hrn : r < n) (full : Full S r n par) (hb : ∀ x, x < n → k ≤ b x ∧ b x ≤ k + 1) (q : QB S r n par b) :
    QB S r n (Id par y z) fun x => if x = y then k + 1 else b x := by
  have here : ∀ w, AvN S r w (k + 1) y → ¬ UpTo (Id par y z) y w := fun w hw hu => by
    rcases h.here.1 hu with rfl | hu
    · exact hw.av.ne rfl
    · cases hw with
      | root hr _ => exact h.hr rfl
      | @step _ p _ hp hyp hne =>
        have hpn := rc_lt hS hrn hp.av.rc; have hpp := full p hpn hp.av.rc; exact q p hpn hpp w (hp.mono (hb p hpn).1) ((h.best w).1 hu p hpn hyp hpp)
  intro x hx hxp w hw hu
  dsimp only at hw
  by_cases e : x = y
  · subst e; rw [if_pos rfl] at hw; exact here w hw hu
  · rw [if_neg e] at hw; unfold Id at hxp; rw [if_neg e] at hxp; rcases anc_upd_inv hu with h1 | ⟨h1, h2⟩
    · exact q x hx hxp w hw h1
    · rcases hw.via y with h3 | h3
      · exact q x hx hxp y h3 h1
      · exact here w (h3.mono (hb x hx).2) h2
theorem exact_of (h : Inv S r n at_ par) {K : Nat} (hK : ∀ z, z < n → ∀ x, x < n → Av S r z x → AvN S r z K x) (q : QB S r n par fun _ => K) : Exact S r n par := fun x hx hp d => by
  constructor
  · intro hu ha; exact q x hx hp d (hK d (h.anc hu hx hp).1 x hx ha) hu
  · intro ha; exact Classical.byContradiction fun hn => ha (h.all x hx hp d hn)
theorem Better.same {y z : Nat} (h : Better S r n at_ par y z) (hS : ∀ x, x < n → ∀ w ∈ S x, w < n) (hrn : r < n) (full : Full S r n par) (hy2 : par y ≠ -2) (ex : Exact S r n par) : par y = (z : Int) := by
  obtain ⟨hzz, hz2, hzl, hzf⟩ := h.zlt; rcases h.inv.kind y h.hy with h1 | h1 | ⟨q, hq⟩
  · exact absurd h1 hy2
  · exact absurd h1 h.hr
  · obtain ⟨q1, q2, q3, q4⟩ := h.inv.up y h.hy q hq
    have key : ∀ w, UpTo par z w ↔ UpTo par q w := fun w => by
      rw [h.best w]
      constructor
      · intro hall
        have hwy : ¬ Av S r w y := fun ha => by
          cases ha with
          | root _ => exact h.hr rfl
          | @step p _ hp hyp hne =>
            have hpn := rc_lt hS hrn hp.rc; have hpp := full p hpn hp.rc; exact (ex p hpn hpp w).1 (hall p hpn hyp hpp) hp
        rcases (anc_up hq).1 ((ex y h.hy hy2 w).2 hwy) with rfl | hu
        · have := (h.inv.anc ((h.best _).2 hall) h.hz hz2).2.2.1; omega
        · exact hu
      · intro hu p hp hyp hpp; have hwy : UpTo par y w := .up hq hu; refine (ex p hp hpp w).2 fun ha => ?_
        have hne : y ≠ w := by rintro rfl; have := (h.inv.anc hu q1 q2).2.2.1; omega
        exact (ex y h.hy hy2 w).1 hwy (.step ha hyp hne)
    have := h.inv.antisymm ((key q).2 (.refl _)) ((key z).1 (.refl _)) h.hz hz2; rw [hq, this]
theorem exact_fix (h : Inv S r n at_ par) (hS : ∀ x, x < n → ∀ w ∈ S x, w < n) (hrn : r < n) (full : Full S r n par) (fix : ∀ y, y < n → y ≠ r → Rc S r y → ∃ z : Nat, par y = (z : Int) ∧ Best S n par y z) : Exact S r n par := fun x hx hp d => by
  constructor
  · intro hu ha
    induction ha with
    | root hne => exact hne (h.root_anc.1 hu).symm
    | @step p y hp' hyp hne ih =>
      have hpn := rc_lt hS hrn hp'.rc; have hpp := full p hpn hp'.rc
      by_cases e : y = r
      · subst e; exact hne (h.root_anc.1 hu).symm
      · obtain ⟨z, hz, hb⟩ := fix y hx e (.step hp'.rc hyp); rcases (anc_up hz).1 hu with rfl | hu
        · exact hne rfl
        · exact ih hpn hpp ((hb d).1 hu p hpn hyp hpp)
  · intro ha; exact Classical.byContradiction fun hn => ha (h.all x hx hp d hn)
end
def A7 (t : List Int) : Nat → Int := fun x => t.getD x 0
theorem Zz {t : List Int} {y : Nat} {v : Int} (hy : y < t.length) : A7 (t.set y v) = Id (A7 t) y v := by
  funext x
  unfold A7 Id
  by_cases e : x = y
  · subst e; simp [List.getD, hy]
  · simp [List.getD, e, Ne.symm e]
open Classical in
def H1 (S : Nat → List Nat) (n : Nat) (t : List Int) (y : Nat) : Nat := if h : ∃ z, z < n ∧ Best S n (A7 t) y z then Classical.choose h else 0
def M0 (S : Nat → List Nat) (n : Nat) (P : List Nat) (t : List Int) : Nat → List Int
  | 0 => t
  | i + 1 => (M0 S n P t i).set (P.getD i 0) (H1 S n (M0 S n P t i) (P.getD i 0) : Int)
def Tw (S : Nat → List Nat) (n : Nat) (P : List Nat) (t : List Int) : Nat → List Int
  | 0 => t
  | j + 1 => M0 S n P (Tw S n P t j) P.length
def E0 (n r : Nat) : List Int := (List.replicate n (-2 : Int)).set r (-1)
structure Ordered (S : Nat → List Nat) (r n : Nat) (P : List Nat) : Prop where
  hr : r < n
  hS : ∀ x, x < n → ∀ w ∈ S x, w < n
  nodup : (r :: P).Nodup
  mem : ∀ x, x ∈ r :: P ↔ Rc S r x
  fwd : ∀ i, i < P.length → ∃ p, p ∈ r :: P.take i ∧ P.getD i 0 ∈ S p
section
variable {S : Nat → List Nat} {r n : Nat} {P : List Nat}
theorem Ordered.lt (o : Ordered S r n P) {x : Nat} (h : x ∈ r :: P) : x < n := rc_lt o.hS o.hr ((o.mem x).1 h)
theorem J7 {i : Nat} (hi : i < P.length) : P.getD i 0 ∈ P := by rw [As _ _ _ hi]; exact List.getElem_mem hi
theorem Ordered.at_lt (o : Ordered S r n P) {i : Nat} (hi : i < P.length) {p : Nat} (hp : p ∈ r :: P.take i) : pos (r :: P) p < pos (r :: P) (P.getD i 0) := by
  have hd := o.nodup
  have h1 : pos (r :: P) (P.getD i 0) = i + 1 := by
    have := (Tu hd (i := i + 1) (by simpa using hi)).2; rw [As _ _ _ hi]
    simpa using this
  rw [h1]; obtain ⟨j, hj, rfl⟩ := List.getElem_of_mem hp
  have hj' : j < i + 1 := by simp at hj; omega
  have hjl : j < (r :: P).length := by simp; omega
  have e : (r :: P.take i)[j] = (r :: P)[j] := by
    cases j with
    | zero => rfl
    | succ j => simp
  rw [e, (Tu hd hjl).2]; exact hj'
theorem inv0 (o : Ordered S r n P) : Inv S r n (pos (r :: P)) (A7 (E0 n r)) ∧ (E0 n r).length = n ∧ A7 (E0 n r) r ≠ -2 := by
  have hlen : (E0 n r).length = n := by simp [E0]
  have hr := o.hr
  have at_ : ∀ x, x < n → A7 (E0 n r) x = if x = r then -1 else -2 := fun x hx => by
    unfold A7 E0
    by_cases e : x = r
    · subst e; simp [List.getD, hx]
    · simp [List.getD, hx, e, Ne.symm e]
  have hno : ∀ x, x < n → ∀ p : Nat, A7 (E0 n r) x ≠ (p : Int) := fun x hx p hp => by rw [at_ x hx] at hp; split at hp <;> omega
  refine ⟨⟨by rw [at_ r hr, if_pos rfl], fun x hx => ?_, fun x hx z hz => absurd hz (hno x hx z), fun x hx hp => ?_, fun x hx hp d hd => ?_⟩, hlen, by rw [at_ r hr, if_pos rfl]; omega⟩
  · by_cases e : x = r
    · exact .inr (.inl e)
    · exact .inl (by rw [at_ x hx, if_neg e])
  · by_cases e : x = r
    · subst e; exact .root
    · exact absurd (by rw [at_ x hx, if_neg e]) hp
  · by_cases e : x = r
    · subst e; exact .root (fun e => hd (by rw [e]; exact .refl _))
    · exact absurd (by rw [at_ x hx, if_neg e]) hp
structure Ready (S : Nat → List Nat) (r n : Nat) (P : List Nat) (t : List Int) (i : Nat) : Prop where
  inv : Inv S r n (pos (r :: P)) (A7 t)
  len : t.length = n
  done : ∀ x ∈ r :: P.take i, A7 t x ≠ -2
theorem Inv.meets {at_ : Nat → Nat} {par : Nat → Int} (h : Inv S r n at_ par) (hinj : ∀ x y, x < n → y < n → par x ≠ -2 → par y ≠ -2 → at_ x = at_ y → x = y) (hr : at_ r = 0) : ∀ m a b, at_ a + at_ b ≤ m → a < n → b < n → par a ≠ -2 → par b ≠ -2 → ∃ c, MeetAt par a b c ∧ c < n ∧ par c ≠ -2 := by
  intro m
  induction m with
  | zero =>
    intro a b hm ha hb hpa hpb; have : a = b := hinj a b ha hb hpa hpb (by omega); subst this; exact ⟨a, W8, ha, hpa⟩
  | succ m ih =>
    have go : ∀ a b, at_ a + at_ b ≤ m + 1 → a < n → b < n → par a ≠ -2 → par b ≠ -2 → at_ b ≤ at_ a → ∃ c, MeetAt par a b c ∧ c < n ∧ par c ≠ -2 := fun a b hm ha hb hpa hpb hl => by
      by_cases e : a = b
      · subst e; exact ⟨a, W8, ha, hpa⟩
      · rcases h.kind a ha with h1 | h1 | ⟨p, hp⟩
        · exact absurd h1 hpa
        · subst h1; exact absurd (hinj a b ha hb hpa hpb (by omega)) e
        · obtain ⟨p1, p2, p3, p4⟩ := h.up a ha p hp; obtain ⟨c, hc, hc2⟩ := ih p b (by omega) p1 hb p2 hpb; exact ⟨c, h.meet_left hinj ha hpa hb hpb e hl hp hc, hc2⟩
    intro a b hm ha hb hpa hpb; rcases Nat.le_total (at_ b) (at_ a) with hl | hl
    · exact go a b hm ha hb hpa hpb hl
    · obtain ⟨c, hc, hc2⟩ := go b a (by omega) hb ha hpb hpa hl; exact ⟨c, meet_swap hc, hc2⟩
theorem Ready.inj (o : Ordered S r n P) {t : List Int} {i : Nat} (h : Ready S r n P t i) : ∀ x y, x < n → y < n → A7 t x ≠ -2 → A7 t y ≠ -2 → pos (r :: P) x = pos (r :: P) y → x = y := fun x y hx hy hpx hpy he => by
  have hm : ∀ x, x < n → A7 t x ≠ -2 → x ∈ r :: P := fun x hx hp => (o.mem x).2 (h.inv.rc x hx hp)
  have back : ∀ x ∈ r :: P, (r :: P).getD (pos (r :: P) x) 0 = x := fun x hx => by
    obtain ⟨j, hj, rfl⟩ := List.getElem_of_mem hx; rw [(Tu o.nodup hj).2, As _ _ _ hj]
  rw [← back x (hm x hx hpx), ← back y (hm y hy hpy), he]
theorem pos_root : pos (r :: P) r = 0 := by rw [Vm, if_pos rfl]
theorem Ready.meetAll (o : Ordered S r n P) {t : List Int} {i : Nat} (h : Ready S r n P t i) : ∀ l : List Nat, (∀ p ∈ l, p < n ∧ A7 t p ≠ -2) → l ≠ [] → ∃ z, z < n ∧ A7 t z ≠ -2 ∧ ∀ w, UpTo (A7 t) z w ↔ ∀ p ∈ l, UpTo (A7 t) p w := by
  intro l
  induction l with
  | nil => intro _ hn; exact absurd rfl hn
  | cons p l ih =>
    intro hl _; obtain ⟨hp1, hp2⟩ := hl p (List.mem_cons_self ..)
    by_cases hl0 : l = []
    · subst hl0; exact ⟨p, hp1, hp2, fun w => by simp⟩
    · obtain ⟨z, hz1, hz2, hz3⟩ := ih (fun q hq => hl q (List.mem_cons_of_mem _ hq)) hl0; obtain ⟨c, hc1, hc2, hc3⟩ := h.inv.meets (h.inj o) pos_root _ p z (Nat.le_refl _) hp1 hz1 hp2 hz2; exact ⟨c, hc2, hc3, fun w => by rw [hc1 w, hz3 w]; simp⟩
theorem Ready.best (o : Ordered S r n P) {t : List Int} {i : Nat} (h : Ready S r n P t i) (hi : i < P.length) : Better S r n (pos (r :: P)) (A7 t) (P.getD i 0) (H1 S n t (P.getD i 0)) := by
  have hy := J7 hi; have hyr : P.getD i 0 ≠ r := fun e => (List.nodup_cons.1 o.nodup).1 (e ▸ hy); have hyn := o.lt (List.mem_cons_of_mem _ hy); obtain ⟨p, hp, hyp⟩ := o.fwd i hi; have hp2 := h.done p hp
  have hpP : p ∈ r :: P := by
    rcases List.mem_cons.1 hp with rfl | hp
    · exact List.mem_cons_self ..
    · exact List.mem_cons_of_mem _ (List.mem_of_mem_take hp)
  have hpn := o.lt hpP
  have hex : ∃ z, z < n ∧ Best S n (A7 t) (P.getD i 0) z := by
    classical
    obtain ⟨z, hz1, hz2, hz3⟩ := h.meetAll o ((List.range n).filter fun p => decide (P.getD i 0 ∈ S p ∧ A7 t p ≠ -2)) (fun p hp => by
      obtain ⟨h1, h2⟩ := List.mem_filter.1 hp
      exact ⟨List.mem_range.1 h1, (of_decide_eq_true h2).2⟩) (fun e => by
      have : p ∈ (List.range n).filter fun p => decide (P.getD i 0 ∈ S p ∧ A7 t p ≠ -2) := List.mem_filter.2 ⟨List.mem_range.2 hpn, decide_eq_true ⟨hyp, hp2⟩⟩
      rw [e] at this; cases this)
    refine ⟨z, hz1, fun w => ?_⟩; rw [hz3 w]
    constructor
    · intro k p hp hyp hpp; exact k p (List.mem_filter.2 ⟨List.mem_range.2 hp, decide_eq_true ⟨hyp, hpp⟩⟩)
    · intro k p hp; obtain ⟨h1, h2⟩ := List.mem_filter.1 hp; exact k p (List.mem_range.1 h1) (of_decide_eq_true h2).1 (of_decide_eq_true h2).2
  have hb : H1 S n t (P.getD i 0) < n ∧ Best S n (A7 t) (P.getD i 0) (H1 S n t (P.getD i 0)) := by
    unfold H1; rw [dif_pos hex]; exact Classical.choose_spec hex
  exact ⟨h.inv, hyn, hyr, hb.1, hb.2, p, hpn, hyp, hp2, o.at_lt hi hp⟩
theorem Ready.best_eq (o : Ordered S r n P) {t : List Int} {i : Nat} (h : Ready S r n P t i) (hi : i < P.length) {z : Nat} (hz : z < n) (hz2 : A7 t z ≠ -2) (hb : Best S n (A7 t) (P.getD i 0) z) : z = H1 S n t (P.getD i 0) := by
  have b := h.best o hi; exact (h.inv.antisymm ((hb _).2 ((b.best _).1 (.refl _))) ((b.best _).2 ((hb _).1 (.refl _))) hz hz2).symm
theorem Ready.next (o : Ordered S r n P) {t : List Int} {i : Nat} (h : Ready S r n P t i) (hi : i < P.length) : Ready S r n P (t.set (P.getD i 0) (H1 S n t (P.getD i 0) : Int)) (i + 1) := by
  have b := h.best o hi; have e := Zz (t := t) (y := P.getD i 0) (v := (H1 S n t (P.getD i 0) : Int)) (by rw [h.len]; exact b.hy); refine ⟨by rw [e]; exact b.inv', by rw [List.length_set]; exact h.len, fun x hx => ?_⟩; rw [e]; unfold Id
  split
  · omega
  · rename_i hne
    refine h.done x ?_; rcases List.mem_cons.1 hx with rfl | hx
    · exact List.mem_cons_self ..
    · rw [List.take_succ_eq_append_getElem hi] at hx; rcases List.mem_append.1 hx with hx | hx
      · exact List.mem_cons_of_mem _ hx
      · rw [List.mem_singleton, ← As _ _ 0 hi] at hx; exact absurd hx hne
theorem Ready.more (o : Ordered S r n P) {t : List Int} (h : Ready S r n P t P.length) (i : Nat) : Ready S r n P t i :=
  ⟨h.inv, h.len, fun x hx => h.done x (by
    rw [List.take_length]; rcases List.mem_cons.1 hx with rfl | hx
    · exact List.mem_cons_self ..
    · exact List.mem_cons_of_mem _ (List.mem_of_mem_take hx))⟩
theorem Ready.full (o : Ordered S r n P) {t : List Int} (h : Ready S r n P t P.length) : Full S r n (A7 t) := fun x hx hr => h.done x (by rw [List.take_length]; exact (o.mem x).2 hr)
theorem Ready.round (o : Ordered S r n P) {t : List Int} (h : Ready S r n P t 0) : ∀ i, i ≤ P.length → Ready S r n P (M0 S n P t i) i := by
  intro i
  induction i with
  | zero => intro _; exact h
  | succ i ih => intro hi; exact (ih (by omega)).next o (by omega)
theorem ready0 (o : Ordered S r n P) : Ready S r n P (E0 n r) 0 := by
  obtain ⟨h1, h2, h3⟩ := inv0 o; exact ⟨h1, h2, fun x hx => by simp at hx; subst hx; exact h3⟩
theorem Ready.rounds (o : Ordered S r n P) : ∀ j, Ready S r n P (Tw S n P (E0 n r) j) 0 := by
  intro j
  induction j with
  | zero => exact ready0 o
  | succ j ih => exact ((ih.round o) P.length (Nat.le_refl _)).more o 0
theorem Ready.rounds' (o : Ordered S r n P) (j : Nat) : Ready S r n P (Tw S n P (E0 n r) (j + 1)) P.length := (Ready.rounds o j).round o P.length (Nat.le_refl _)
theorem qb_round (o : Ordered S r n P) {t : List Int} {k : Nat} (h : Ready S r n P t P.length) (q : QB S r n (A7 t) fun _ => k) : QB S r n (A7 (M0 S n P t P.length)) fun _ => k + 1 := by
  have key : ∀ i, i ≤ P.length → QB S r n (A7 (M0 S n P t i)) (fun x => if x ∈ P.take i then k + 1 else k) ∧ Full S r n (A7 (M0 S n P t i)) := by
    intro i
    induction i with
    | zero => intro _; exact ⟨by simpa [M0] using q, h.full o⟩
    | succ i ih =>
      intro hi; obtain ⟨q1, f1⟩ := ih (by omega); have rd := (h.more o 0).round o i (by omega); have b := rd.best o (by omega); have e := Zz (t := M0 S n P t i) (y := P.getD i 0) (v := (H1 S n (M0 S n P t i) (P.getD i 0) : Int)) (by rw [rd.len]; exact b.hy)
      constructor
      · show QB S r n (A7 ((M0 S n P t i).set _ _)) _
        rw [e]; have := b.qb (k := k) o.hS o.hr f1 (fun x _ => by split <;> omega) q1; intro x hx hp z hz; refine this x hx hp z ?_
        dsimp only at hz ⊢
        rw [List.take_succ_eq_append_getElem (by omega : i < P.length)] at hz
        by_cases e1 : x = P.getD i 0
        · rw [if_pos e1]; rwa [if_pos (List.mem_append.2 (.inr (List.mem_singleton.2 (by rw [e1, As _ _ _ (by omega : i < P.length)]))))] at hz
        · rw [if_neg e1]
          by_cases e2 : x ∈ P.take i
          · rw [if_pos e2]; rwa [if_pos (List.mem_append.2 (.inl e2))] at hz
          · rw [if_neg e2]
            rwa [if_neg (fun hm => by
              rcases List.mem_append.1 hm with hm | hm
              · exact e2 hm
              · rw [List.mem_singleton, ← As _ _ 0 (by omega : i < P.length)] at hm; exact e1 hm)] at hz
      · show Full S r n (A7 ((M0 S n P t i).set _ _))
        rw [e]; intro x hx hr; unfold Id
        split
        · omega
        · exact f1 x hx hr
  have q1 := (key P.length (Nat.le_refl _)).1; rw [List.take_length] at q1; have rd := (h.more o 0).round o P.length (Nat.le_refl _); intro x hx hp z hz; refine q1 x hx hp z ?_
  dsimp only at hz ⊢
  by_cases e : x ∈ P
  · rw [if_pos e]; exact hz
  · rw [if_neg e]
    have hxr : x = r := by
      rcases List.mem_cons.1 ((o.mem x).2 (rd.inv.rc x hx hp)) with h1 | h1
      · exact h1
      · exact absurd h1 e
    subst hxr; exact .root hz.av.ne k
def Mu (S : Nat → List Nat) (n : Nat) (P : List Nat) (t : List Int) : Prop := ∀ i, i < P.length → A7 t (P.getD i 0) = (H1 S n t (P.getD i 0) : Int)
theorem Nj {t : List Int} (o : Ordered S r n P) (hl : t.length = n) (h : Mu S n P t) : ∀ i, i ≤ P.length → M0 S n P t i = t := by
  intro i
  induction i with
  | zero => intro _; rfl
  | succ i ih =>
    intro hi; unfold M0; rw [ih (by omega), ← h i (by omega)]
    have hlt : P.getD i 0 < t.length := by rw [hl]; exact o.lt (List.mem_cons_of_mem _ (J7 (by omega)))
    unfold A7; rw [As _ _ _ hlt]; exact List.set_getElem_self hlt
theorem stops (o : Ordered S r n P) : ∃ J, (∀ j, j < J → ¬ Mu S n P (Tw S n P (E0 n r) j)) ∧ Mu S n P (Tw S n P (E0 n r) J) := by
  obtain ⟨K, hK⟩ := avn_bound (S := S) (r := r) n
  have hq : ∀ k, QB S r n (A7 (Tw S n P (E0 n r) (k + 1))) fun _ => k := by
    intro k
    induction k with
    | zero => exact qb_zero (Ready.rounds' o 0).inv
    | succ k ih => exact qb_round o (Ready.rounds' o k) ih
  have hst : Mu S n P (Tw S n P (E0 n r) (K + 1)) := fun i hi => by
    have rd := Ready.rounds' o K; exact ((rd.more o i).best o hi).same o.hS o.hr (rd.full o) (rd.done _ (List.mem_cons_of_mem _ (by rw [List.take_length]; exact J7 hi))) (exact_of rd.inv hK (hq K))
  have key : ∀ m, (∃ J, J ≤ m ∧ Mu S n P (Tw S n P (E0 n r) J)) → ∃ J, (∀ j, j < J → ¬ Mu S n P (Tw S n P (E0 n r) j)) ∧ Mu S n P (Tw S n P (E0 n r) J) := by
    intro m
    induction m with
    | zero => rintro ⟨J, hJ, h⟩; exact ⟨J, fun j hj => by omega, h⟩
    | succ m ih =>
      rintro ⟨J, hJ, h⟩
      by_cases hm : ∃ J, J ≤ m ∧ Mu S n P (Tw S n P (E0 n r) J)
      · exact ih hm
      · exact ⟨J, fun j hj hs => hm ⟨j, by omega, hs⟩, h⟩
  exact key (K + 1) ⟨K + 1, Nat.le_refl _, hst⟩
structure DomTree (S : Nat → List Nat) (r n : Nat) (P : List Nat) (t : List Int) : Prop where
  inv : Inv S r n (pos (r :: P)) (A7 t)
  len : t.length = n
  full : Full S r n (A7 t)
  exact_ : Exact S r n (A7 t)
theorem Sv (o : Ordered S r n P) {j : Nat} (h : Mu S n P (Tw S n P (E0 n r) j)) : DomTree S r n P (Tw S n P (E0 n r) j) := by
  have rd := Ready.rounds o j
  have hall : Ready S r n P (Tw S n P (E0 n r) j) P.length := by
    have := rd.round o P.length (Nat.le_refl _); rwa [Nj o rd.len h P.length (Nat.le_refl _)] at this
  refine ⟨rd.inv, rd.len, hall.full o, exact_fix rd.inv o.hS o.hr (hall.full o) fun y hy hne hr => ?_⟩
  have hm : y ∈ P := by
    rcases List.mem_cons.1 ((o.mem y).2 hr) with h1 | h1
    · exact absurd h1 hne
    · exact h1
  obtain ⟨i, hi, rfl⟩ := List.getElem_of_mem hm; have b := (hall.more o i).best o hi; rw [As _ _ _ hi] at b; have hs := h i hi; rw [As _ _ _ hi] at hs; exact ⟨_, hs, b.best⟩
end
end
end Go.Proofs.Ytjdddniaokcgnaa

namespace Go.Proofs.Ytjdddniaokcgnaa
noncomputable section
open Go Go.RowKit
set_option linter.unusedVariables false
set_option linter.unusedSimpArgs false
section
variable {S : Nat → List Nat} {s s' : Nat → Bool} {l o : List Nat}
theorem VL.before (h : VL S s l s' o) : ∀ A z B, o = A ++ z :: B → z ∈ l ∨ ∃ p ∈ B, z ∈ S p := by
  induction h with
  | nil s => intro A z B e; simp at e
  | skip h _ ih =>
    intro A z B e; rcases ih A z B e with h1 | h1
    · exact .inl (List.mem_cons_of_mem _ h1)
    · exact .inr h1
  | @step s s1 s2 y l o1 o2 h a b iha ihb =>
    intro A z B e; rcases List.append_eq_append_iff.1 e with ⟨C, hC1, hC2⟩ | ⟨C, hC1, hC2⟩
    ·
      cases C with
      | nil =>
        simp at hC2; obtain ⟨rfl, rfl⟩ := hC2; exact .inl (List.mem_cons_self ..)
      | cons c C =>
        simp at hC2; obtain ⟨rfl, hC2⟩ := hC2; rcases ihb C z B hC2 with h1 | h1
        · exact .inl (List.mem_cons_of_mem _ h1)
        · exact .inr h1
    · cases C with
      | nil =>
        simp at hC2; obtain ⟨rfl, rfl⟩ := hC2; exact .inl (List.mem_cons_self ..)
      | cons c C =>
        simp at hC2; obtain ⟨rfl, rfl⟩ := hC2; rcases iha A z C hC1 with h1 | ⟨p, hp, hz⟩
        · exact .inr ⟨y, by simp, h1⟩
        · exact .inr ⟨p, by simp [hp], hz⟩
theorem Ord.ordered {n r : Nat} {L : List Nat} (hr : r < n) (hS : ∀ x, x < n → ∀ w ∈ S x, w < n) (h : Ord S r L) : ∃ P, L = r :: P ∧ Ordered S r n P := by
  have h1 := h.nodup; have h2 := h.mem; obtain ⟨s', o, hv, rfl⟩ := h; refine ⟨o.reverse, rfl, hr, hS, h1, fun x => by rw [h2 x, rc_iff], fun i hi => ?_⟩
  have hi' : i < o.length := by simpa using hi
  have e : o.reverse = o.reverse.take i ++ o.reverse[i] :: o.reverse.drop (i + 1) := by rw [← List.drop_eq_getElem_cons hi, List.take_append_drop]
  have e2 : o = (o.reverse.drop (i + 1)).reverse ++ o.reverse[i] :: (o.reverse.take i).reverse := by
    have := congrArg List.reverse e; rw [List.reverse_reverse] at this; rw [List.reverse_append, List.reverse_cons] at this
    simpa using this
  rw [As _ _ _ hi]; rcases hv.before _ _ _ e2 with h3 | ⟨p, hp, hz⟩
  · exact ⟨r, List.mem_cons_self .., h3⟩
  · exact ⟨p, List.mem_cons_of_mem _ (List.mem_reverse.1 hp), hz⟩
end
def woI (S : Nat → List Nat) (w : Int) : Nat → List Nat := fun x => (S x).filter fun y => decide ((y : Int) ≠ w)
theorem woI_none (S : Nat → List Nat) : woI S (-1) = S := by
  funext x
  unfold woI; exact List.filter_eq_self.2 fun y _ => decide_eq_true (by omega)
theorem woI_nat (S : Nat → List Nat) (z : Nat) : woI S (z : Int) = wo S z := by
  funext x
  unfold woI wo
  congr 1
  funext y
  exact decide_eq_decide.2 ⟨fun h e => h (by rw [e]), fun h e => h (Int.ofNat.inj e)⟩
def Gd (L : List (List Int)) (r : Nat) (w : Int) : List Bool := if (r : Int) = w then List.replicate L.length false else U7 (woI (sN L) w) L.length ((List.replicate L.length false).set r true) L.length
theorem Ko (L : List (List Int)) (r : Nat) (w : Int) : (Gd L r w).length = L.length := by
  unfold Gd
  split
  · simp
  · rw [T4]; simp
theorem N7 {L : List (List Int)} (hm : Ec L = true) {r : Nat} (hr : r < L.length) (w : Int) :
    Bp (gOf L) (r : Int) w = some (Gd L r w) := by
  obtain ⟨h1, h2, h3⟩ := mayS_iff.1 hm
  have hroom : (1000 : Nat) ≤ room := by decide
  have hS := K9 hm; have hSw : ∀ z, z < L.length → ∀ y ∈ woI (sN L) w z, y < L.length := fun z hz y hy => hS z hz y (List.mem_filter.1 hy).1; have hgs : (gOf L).Succ = L := rfl
  have hlenS : ∀ a, (sN L a).length = (L.getD a []).length := fun a => by simp [sN]
  let fl : List Nat → List Nat := fun l => l.filter fun y => decide ((y : Int) ≠ w)
  have hin : ∀ (o : List Bool) (i : Nat), o.length = L.length → i < L.length → Aw (Bt (gOf L) w (i : Int)) ((0 : Int), o) = some (if o.getD i false = true then mk o (woI (sN L) w i) else o) := fun o i ho hi => by
    have hb := Jy (h3 i hi)
    by_cases hoi : o.getD i false = true
    · rw [if_pos hoi]; have hmi : ∀ k, (mk o (fl ((sN L i).take k))).getD i false = true := fun k => (mk_at (n := L.length) _ _ ho (fun y hy => hS i hi y (List.mem_of_mem_take (List.mem_filter.1 hy).1)) i).2 (.inl hoi)
      have hml : ∀ k, (mk o (fl ((sN L i).take k))).length = L.length := fun k => by rw [mk_len, ho]
      refine Cy (Bt (gOf L) w (i : Int)) (fun k => (((k : Nat) : Int), mk o (fl ((sN L i).take k)))) _ (L.getD i []).length (fun k hk => ?_) ?_
      · show Bt (gOf L) w (i : Int) (_, _) = _
        unfold Bt; obtain ⟨a0, a1⟩ := Ob (h3 i hi) hk; simp only [hgs, An, hmi]; rw [Ae (De (by rw [hml]; exact hi)), Iz (De hi), cond_true, Cb hk, cond_true, Ae (De hi), Ae (De hk)]
        have hk' : k < (sN L i).length := by rw [hlenS]; exact hk
        have hsk : (sN L i)[k] = ((L.getD i []).getD k 0).toNat := by rw [As _ _ _ hk]; simp [sN]
        have hski : (((sN L i)[k] : Nat) : Int) = (L.getD i []).getD k 0 := by rw [hsk]; exact Int.toNat_of_nonneg a0
        have e : mk o (fl ((sN L i).take (k + 1))) = if (L.getD i []).getD k 0 = w then mk o (fl ((sN L i).take k)) else (mk o (fl ((sN L i).take k))).set ((L.getD i []).getD k 0).toNat true := by
          rw [List.take_succ_eq_append_getElem hk']
          show mk o (List.filter _ (_ ++ [_])) = _
          rw [List.filter_append]
          by_cases hw : (L.getD i []).getD k 0 = w
          · rw [if_pos hw]
            have : List.filter (fun y : Nat => decide ((y : Int) ≠ w)) [(sN L i)[k]] = [] := by rw [List.filter_cons, hski, hw]; simp
            rw [this, List.append_nil]
          · rw [if_neg hw]
            have : List.filter (fun y : Nat => decide ((y : Int) ≠ w)) [(sN L i)[k]] = [(sN L i)[k]] := by rw [List.filter_cons, hski, if_pos (decide_eq_true hw)]; rfl
            rw [this]; unfold mk; rw [List.foldl_append, hsk]
            rfl
        by_cases hw : (L.getD i []).getD k 0 = w
        · have hne : ((L.getD i []).getD k 0 != w) = false := by rw [hw]; simp
          rw [hne, cond_false, Option.bind_some, w1 (by omega), e, if_pos hw]
        · have hne : ((L.getD i []).getD k 0 != w) = true := by rw [bne_iff_ne]; exact hw
          rw [hne, cond_true, Ae (De hi), Ae (De hk), Ae ⟨a0, by rw [hml]; exact a1⟩, w1 (by omega), e, if_neg hw]
          rfl
      · show Bt (gOf L) w (i : Int) (_, _) = _
        unfold Bt; simp only [hgs, An, hmi]; rw [Ae (De (by rw [hml]; exact hi)), Iz (De hi), cond_true, Dh, cond_false]
        have : (sN L i).take (L.getD i []).length = sN L i := by rw [← hlenS]; exact List.take_length ..
        rw [this]
        rfl
    · have hof : o.getD i false = false := by simpa using hoi
      rw [if_neg hoi]
      apply A6
      unfold Bt; simp only [hgs, An, hof]; rw [Ae (De (by rw [ho]; exact hi)), Iz (De hi), cond_false, cond_false]
  have hsw : ∀ o : List Bool, o.length = L.length → Aw (B8 (gOf L) w) ((0 : Int), o) = some (sw (woI (sN L) w) o L.length) := fun o ho => by
    refine Cy (B8 (gOf L) w) (fun i => (((i : Nat) : Int), sw (woI (sN L) w) o i)) _ L.length (fun i hi => ?_) ?_
    · show B8 (gOf L) w (_, _) = _
      unfold B8
      have hl : (sw (woI (sN L) w) o i).length = L.length := by rw [Nv, ho]
      simp only [hl, Cb hi, cond_true]; rw [hin _ i hl hi, w1 (by omega)]
      rfl
    · show B8 (gOf L) w (_, _) = _
      unfold B8
      have hl : (sw (woI (sN L) w) o L.length).length = L.length := by rw [Nv, ho]
      simp only [hl, Dh, cond_false]
  unfold Bp; simp only [hgs, An]; rw [Ae ⟨by omega, Int.le_refl _, by omega⟩]; unfold Gd
  by_cases hrw : (r : Int) = w
  · rw [if_pos hrw]
    have : ((r : Int) == w) = true := by simpa using hrw
    rw [this, cond_true]
  · rw [if_neg hrw]
    have hne : ((r : Int) == w) = false := by rw [beq_eq_false_iff_ne]; exact hrw
    rw [hne, cond_false, Ae (De (by simpa using hr))]
    have hl0 : ((List.replicate L.length false).set r true).length = L.length := by simp
    have : Aw (B9 (gOf L) w) ((0 : Int), (List.replicate L.length false).set r true) = some (U7 (woI (sN L) w) L.length ((List.replicate L.length false).set r true) L.length) := by
      refine Cy (B9 (gOf L) w) (fun j => (((j : Nat) : Int), U7 (woI (sN L) w) L.length ((List.replicate L.length false).set r true) j)) _ L.length (fun j hj => ?_) ?_
      · show B9 (gOf L) w (_, _) = _
        unfold B9
        have hl : (U7 (woI (sN L) w) L.length ((List.replicate L.length false).set r true) j).length = L.length := by rw [T4, hl0]
        simp only [hl, Cb hj, cond_true]; rw [hsw _ hl, w1 (by omega)]
        rfl
      · show B9 (gOf L) w (_, _) = _
        unfold B9
        have hl : (U7 (woI (sN L) w) L.length ((List.replicate L.length false).set r true) L.length).length = L.length := by rw [T4, hl0]
        simp only [hl, Dh, cond_false]
    rw [this]
    rfl
theorem M9 {L : List (List Int)} (hm : Ec L = true) {r : Nat} (hr : r < L.length) {b : Nat} : (Gd L r (-1)).getD b false = true ↔ Rc (sN L) r b := by
  unfold Gd; rw [if_neg (by omega), woI_none, Aam (K9 hm) hr b, rc_iff]
theorem Us {L : List (List Int)} (hm : Ec L = true) {r : Nat} (hr : r < L.length) {a b : Nat} (hb : b < L.length) : (Gd L r (a : Int)).getD b false = true ↔ Av (sN L) r a b := by
  unfold Gd; rw [av_iff]
  by_cases h : r = a
  · subst h; rw [if_pos rfl, Jb]
    simp
  · rw [if_neg (by omega), woI_nat, Aam (S := wo (sN L) a) (fun z hz y hy => K9 hm z hz y (List.mem_filter.1 hy).1) hr b]; simp [h]
def Ez (L : List (List Int)) (r a b : Nat) : Bool := (Gd L r (-1)).getD b false && !(Gd L r (a : Int)).getD b false
theorem Rd {L : List (List Int)} (hm : Ec L = true) {r a b : Nat} (hr : r < L.length) (hb : b < L.length) : Ez L r a b = true ↔ Rc (sN L) r b ∧ ¬ Av (sN L) r a b := by
  unfold Ez; rw [Bool.and_eq_true, Bool.not_eq_true', ← Bool.not_eq_true, M9 hm hr, Us hm hr hb]
theorem Uk {L : List (List Int)} (hm : Ec L = true) {r a b : Nat} (hr : r < L.length) (hb : b < L.length) : C5 (gOf L) (r : Int) (a : Int) (b : Int) = some (Ez L r a b) := by
  unfold C5; rw [N7 hm hr, Option.bind_some]; simp only [An]; rw [Ae (De (by rw [Ko]; exact hb))]; unfold Ez
  cases h : (Gd L r (-1)).getD b false with
  | false => simp only [Bool.false_and]; rw [show (false == true) = false from rfl, cond_false, Option.bind_some, chk_off]; rfl
  | true =>
    rw [show (true == true) = true from rfl, cond_true, N7 hm hr, Option.bind_some, Iz (De (by rw [Ko]; exact hb))]
    rfl
def nearB (L : List (List Int)) (r a b : Nat) : Bool := (List.range L.length).all fun c => decide (c = b) || !Ez L r c b || Ez L r c a
def Aaq (L : List (List Int)) (r b : Nat) : Nat → Int
  | 0 => -2
  | a + 1 => if a ≠ b ∧ Ez L r a b = true ∧ nearB L r a b = true then (a : Int) else Aaq L r b a
def treeAt (L : List (List Int)) (r b : Nat) : Int := if b = r then -1 else Aaq L r b L.length
def Hk (L : List (List Int)) (r : Nat) : List Int := (List.range L.length).map (treeAt L r)
theorem Hc (L : List (List Int)) (r : Nat) : (Hk L r).length = L.length := by simp [Hk]
theorem treeD_at {L : List (List Int)} {r b : Nat} (hb : b < L.length) : (Hk L r).getD b 0 = treeAt L r b := by unfold Hk; rw [Ht hb]
theorem pick_cases (L : List (List Int)) (r b : Nat) : ∀ m, (Aaq L r b m = -2 ∧ ∀ a, a < m → ¬ (a ≠ b ∧ Ez L r a b = true ∧ nearB L r a b = true)) ∨ ∃ a, a < m ∧ Aaq L r b m = (a : Int) ∧ a ≠ b ∧ Ez L r a b = true ∧ nearB L r a b = true := by
  intro m
  induction m with
  | zero => exact .inl ⟨rfl, fun a ha => absurd ha (Nat.not_lt_zero a)⟩
  | succ m ih =>
    unfold Aaq
    by_cases h : m ≠ b ∧ Ez L r m b = true ∧ nearB L r m b = true
    · rw [if_pos h]; exact .inr ⟨m, by omega, rfl, h⟩
    · rw [if_neg h]; rcases ih with ⟨h1, h2⟩ | ⟨a, h1, h2⟩
      · refine .inl ⟨h1, fun a ha => ?_⟩; rcases Nat.lt_succ_iff_lt_or_eq.1 ha with h3 | rfl
        · exact h2 a h3
        · exact h
      · exact .inr ⟨a, by omega, h2⟩
theorem DomTree.eq {L : List (List Int)} (hm : Ec L = true) {r : Nat} (hr : r < L.length) {P t : List _} (o : Ordered (sN L) r L.length P) (h : DomTree (sN L) r L.length P t) : t = Hk L r := by
  refine List.ext_getElem (by rw [h.len, Hc]) fun b h1 h2 => ?_
  have hb : b < L.length := by rw [← h.len]; exact h1
  rw [← As _ _ 0 h1, ← As _ _ 0 h2, treeD_at hb]
  show A7 t b = _
  have hov : ∀ a b, b < L.length → A7 t b ≠ -2 → (Ez L r a b = true ↔ UpTo (A7 t) b a) := fun a b hb hp => by
    rw [Rd hm hr hb, h.exact_ b hb hp]; exact ⟨fun k => k.2, fun k => ⟨h.inv.rc b hb hp, k⟩⟩
  unfold treeAt
  by_cases hbr : b = r
  · subst hbr; rw [if_pos rfl]; exact h.inv.top
  · rw [if_neg hbr]; rcases h.inv.kind b hb with hk | hk | ⟨z, hz⟩
    ·
      have hn : ¬ Rc (sN L) r b := fun k => h.full b hb k hk; rcases pick_cases L r b L.length with ⟨h3, _⟩ | ⟨a, _, _, _, h6, _⟩
      · rw [hk, h3]
      · exact absurd ((Rd hm hr hb).1 h6).1 hn
    · exact absurd hk hbr
    · obtain ⟨z1, z2, z3, z4⟩ := h.inv.up b hb z hz
      have hp : A7 t b ≠ -2 := by omega
      have hzo : Ez L r z b = true := (hov z b hb hp).2 (.up hz (.refl _))
      have hzb : z ≠ b := by rintro rfl; omega
      have hnear : nearB L r z b = true := all_range.2 fun c hc => by
        by_cases e : c = b
        · simp [e]
        · cases ho : Ez L r c b with
          | false => simp
          | true =>
            have := (hov c b hb hp).1 ho; rcases (anc_up hz).1 this with h3 | h3
            · exact absurd h3 e
            · rw [(hov c z z1 z2).2 h3]; simp
      rcases pick_cases L r b L.length with ⟨_, h3⟩ | ⟨a, h3, h4, h5, h6, h7⟩
      · exact absurd ⟨hzb, hzo, hnear⟩ (h3 z z1)
      · rw [h4, hz]; have haU := (hov a b hb hp).1 h6
        have ha1 : UpTo (A7 t) z a := by
          rcases (anc_up hz).1 haU with h8 | h8
          · exact absurd h8 h5
          · exact h8
        have hap := (h.inv.anc ha1 z1 z2).2.1
        have hza : UpTo (A7 t) a z := by
          have := all_range.1 h7 z z1; simp only [hzo, hzb, decide_false, Bool.not_true, Bool.false_or] at this; exact (hov z a h3 hap).1 this
        rw [h.inv.antisymm ha1 hza z1 z2]
end
end Go.Proofs.Ytjdddniaokcgnaa

namespace Go.Proofs.Ytjdddniaokcgnaa
noncomputable section
open Go Go.RowKit
set_option linter.unusedVariables false
set_option linter.unusedSimpArgs false
theorem J4 {g : TGraph} (h : Hn g = true) : Ec g.Succ = true ∧ g = gOf g.Succ := by
  unfold Hn at h; rw [Bool.and_eq_true] at h; refine ⟨h.1, ?_⟩; obtain ⟨s, p⟩ := g; have := of_decide_eq_true h.2; simp only at this; unfold gOf; rw [this]
theorem T6 {a b : Nat} : (((a : Nat) : Int) == (b : Int)) = decide (a = b) := by
  by_cases h : a = b
  · subst h; simp
  · rw [beq_eq_false_iff_ne.2 (by omega)]; simp [h]
section
variable {L : List (List Int)} (hm : Ec L = true) {r : Nat} (hr : r < L.length)
include hm hr
omit hr in
omit hr in
omit hm hr in
omit hm hr in
omit hm hr in
omit hr in
omit hr in
end
def Abn (g : TGraph) (r : Int) : List Int := if Hn g = true ∧ 0 ≤ r ∧ r < (g.Succ.length : Int) then Hk g.Succ r.toNat else []
end
end Go.Proofs.Ytjdddniaokcgnaa

namespace Go.Proofs.Ytjdddniaokcgnaa
noncomputable section
open Go Go.RowKit
set_option linter.unusedVariables false
set_option linter.unusedSimpArgs false
def upD (t : List Int) : Nat → Int → Option (List Int)
  | 0, _ => none
  | k + 1, a => if 0 ≤ a ∧ a < (t.length : Int) then (if t.getD a.toNat 0 = -1 then some [a] else (upD t k (t.getD a.toNat 0)).map fun l => a :: l) else none
def Gb (t : List Int) (a : Int) : List Int := (upD t t.length a).getD []
theorem upD_len (t : List Int) : ∀ k a q, upD t k a = some q → q.length ≤ k ∧ 1 ≤ q.length := by
  intro k
  induction k with
  | zero => intro a q h; cases h
  | succ k ih =>
    intro a q h; unfold upD at h
    split at h
    · split at h
      · cases h; simp
      · cases hu : upD t k (t.getD a.toNat 0) with
        | none => rw [hu] at h; cases h
        | some q' => rw [hu] at h; cases h; have := ih _ _ hu; simp; omega
    · cases h
theorem pathD_nil {t : List Int} {a : Int} : Gb t a = [] ↔ upD t t.length a = none := by
  unfold Gb
  cases h : upD t t.length a with
  | none => simp
  | some q => have := (upD_len t _ _ _ h).2; simp; intro e; subst e; simp at this
def Rb (t : List Int) (k : Nat) : Nat := ((List.range k).filter fun a => decide (t.getD a 0 = -1)).length
def okR (t : List Int) (a : Nat) : Bool := decide (t.getD a 0 = -2) || !decide (Gb t (a : Int) = [])
def Gx (t : List Int) : Bool := (List.range t.length).all (okR t) && decide (Rb t t.length = 1)
theorem U4 (t : List Int) (k : Nat) : Rb t (k + 1) = Rb t k + if t.getD k 0 = -1 then 1 else 0 := by
  unfold Rb; rw [List.range_succ, List.filter_append, List.length_append]
  by_cases h : t.getD k 0 = -1
  · rw [if_pos h]
    have : List.filter (fun a => decide (t.getD a 0 = -1)) [k] = [k] := by rw [List.filter_cons, if_pos (decide_eq_true h)]; rfl
    rw [this]; rfl
  · rw [if_neg h]
    have : List.filter (fun a => decide (t.getD a 0 = -1)) [k] = [] := by rw [List.filter_cons, if_neg (by simpa using h)]; rfl
    rw [this]; rfl
def Lq (t : List Int) (a b : Int) : Int := if Gx t = true then ((Gb t a).find? fun x => (Gb t b).contains x).getD (-2) else -2
def Ig (t : List Int) (a b : Int) : Bool := Lq t a b == a && Lq t a b != -2
theorem filt_succ (p : Nat → Bool) (k : Nat) : ((List.range (k + 1)).filter p).map Int.ofNat = ((List.range k).filter p).map Int.ofNat ++ (if p k = true then [(k : Int)] else []) := by
  rw [List.range_succ, List.filter_append, List.map_append]
  congr 1
  cases h : p k with
  | true => simp [List.filter_cons, h]
  | false => simp [List.filter_cons, h]
theorem filt_len (p : Nat → Bool) (k : Nat) : (((List.range k).filter p).map Int.ofNat).length ≤ k := by
  rw [List.length_map]; exact Nat.le_trans (List.length_filter_le ..) (by simp)
end
end Go.Proofs.Ytjdddniaokcgnaa

namespace Go.Proofs.Ytjdddniaokcgnaa
noncomputable section
open Go Go.RowKit
set_option linter.unusedVariables false
set_option linter.unusedSimpArgs false
section
variable {S : Nat → List Nat} {r n : Nat} {P : List Nat} {t : List Int}
theorem DomTree.up (h : DomTree S r n P t) : ∀ k x, x < n → A7 t x ≠ -2 → pos (r :: P) x < k → ∃ q, upD t k (x : Int) = some q ∧ (∀ w : Int, w ∈ q ↔ ∃ z : Nat, w = (z : Int) ∧ UpTo (A7 t) x z) ∧
    ∀ p : Int → Bool, (q.find? p = none ∧ ∀ z : Nat, UpTo (A7 t) x z → p (z : Int) = false) ∨ ∃ f : Nat, q.find? p = some (f : Int) ∧ UpTo (A7 t) x f ∧ p (f : Int) = true ∧ ∀ z : Nat, UpTo (A7 t) x z → p (z : Int) = true → UpTo (A7 t) f z := by
  intro k
  induction k with
  | zero => intro x _ _ hk; exact absurd hk (Nat.not_lt_zero _)
  | succ k ih =>
    intro x hx hp hk
    have hxt : (0 : Int) ≤ (x : Int) ∧ (x : Int) < (t.length : Int) := by rw [h.len]; omega
    unfold upD; rw [if_pos hxt, An]; have hpx : t.getD x 0 = A7 t x := rfl; rw [hpx]; rcases h.inv.kind x hx with h1 | rfl | ⟨z, hz⟩
    · exact absurd h1 hp
    · rw [if_pos h.inv.top]; refine ⟨_, rfl, fun w => ?_, fun p => ?_⟩
      · rw [List.mem_singleton]
        constructor
        · rintro rfl; exact ⟨x, rfl, .refl _⟩
        · rintro ⟨z, rfl, hz⟩; rw [h.inv.root_anc.1 hz]
      · cases hpp : p (x : Int) with
        | false => exact .inl ⟨by simp [List.find?, hpp], fun z hz => by rw [h.inv.root_anc.1 hz]; exact hpp⟩
        | true => exact .inr ⟨x, by simp [List.find?, hpp], .refl _, hpp, fun z hz _ => hz⟩
    · obtain ⟨z1, z2, z3, z4⟩ := h.inv.up x hx z hz; rw [hz, if_neg (by omega)]; obtain ⟨q, hq1, hq2, hq3⟩ := ih z z1 z2 (by omega); rw [hq1]; refine ⟨(x : Int) :: q, rfl, fun w => ?_, fun p => ?_⟩
      · rw [List.mem_cons, hq2 w]
        constructor
        · rintro (rfl | ⟨y, rfl, hy⟩)
          · exact ⟨x, rfl, .refl _⟩
          · exact ⟨y, rfl, .up hz hy⟩
        · rintro ⟨y, rfl, hy⟩; rcases (anc_up hz).1 hy with rfl | hy
          · exact .inl rfl
          · exact .inr ⟨y, rfl, hy⟩
      · cases hpp : p (x : Int) with
        | true => exact .inr ⟨x, by simp [List.find?, hpp], .refl _, hpp, fun y hy _ => hy⟩
        | false =>
          have hf : ((x : Int) :: q).find? p = q.find? p := by simp [List.find?, hpp]
          rw [hf]; rcases hq3 p with ⟨e1, e2⟩ | ⟨f, e1, e2, e3, e4⟩
          · refine .inl ⟨e1, fun y hy => ?_⟩; rcases (anc_up hz).1 hy with rfl | hy
            · exact hpp
            · exact e2 y hy
          · refine .inr ⟨f, e1, .up hz e2, e3, fun y hy hpy => ?_⟩; rcases (anc_up hz).1 hy with rfl | hy
            · rw [hpp] at hpy; cases hpy
            · exact e4 y hy hpy
theorem Ordered.pos_lt (o : Ordered S r n P) {x : Nat} (hx : x ∈ r :: P) : pos (r :: P) x < n := by
  obtain ⟨j, hj, rfl⟩ := List.getElem_of_mem hx; rw [(Tu o.nodup hj).2]; have := Ka n (r :: P) o.nodup fun y hy => o.lt hy; omega
theorem DomTree.path (h : DomTree S r n P t) (o : Ordered S r n P) {x : Nat} (hx : x < n) (hp : A7 t x ≠ -2) : Gb t (x : Int) ≠ [] ∧ (∀ w : Int, w ∈ Gb t (x : Int) ↔ ∃ z : Nat, w = (z : Int) ∧ UpTo (A7 t) x z) ∧
    ∀ p : Int → Bool, ((Gb t (x : Int)).find? p = none ∧ ∀ z : Nat, UpTo (A7 t) x z → p (z : Int) = false) ∨ ∃ f : Nat, (Gb t (x : Int)).find? p = some (f : Int) ∧ UpTo (A7 t) x f ∧ p (f : Int) = true ∧ ∀ z : Nat, UpTo (A7 t) x z → p (z : Int) = true → UpTo (A7 t) f z := by
  have hm := (o.mem x).2 (h.inv.rc x hx hp); obtain ⟨q, h1, h2, h3⟩ := h.up n x hx hp (o.pos_lt hm)
  have e : Gb t (x : Int) = q := by unfold Gb; rw [h.len, h1]; rfl
  rw [e]; refine ⟨fun e => ?_, h2, h3⟩; have := (h2 (x : Int)).2 ⟨x, rfl, .refl _⟩; rw [e] at this
  cases this
theorem DomTree.nopath (h : DomTree S r n P t) {x : Nat} (hx : x < n) (hp : A7 t x = -2) : Gb t (x : Int) = [] := by
  rw [pathD_nil]
  cases hl : t.length with
  | zero => rfl
  | succ k =>
    unfold upD; rw [if_pos ⟨by omega, by rw [h.len]; omega⟩, An, show t.getD x 0 = A7 t x from rfl, hp, if_neg (by omega)]
    cases k with
    | zero => rfl
    | succ k => unfold upD; rw [if_neg (by omega)]; rfl
theorem DomTree.right (h : DomTree S r n P t) (o : Ordered S r n P) : Gx t = true := by
  unfold Gx; rw [Bool.and_eq_true]
  constructor
  · refine all_range.2 fun x hx => ?_; rw [h.len] at hx; unfold okR
    by_cases hp : A7 t x = -2
    · rw [show t.getD x 0 = A7 t x from rfl, hp]; rfl
    · rw [decide_eq_false (h.path o hx hp).1]; simp
  · apply decide_eq_true
    have key : ∀ k, k ≤ n → Rb t k = if r < k then 1 else 0 := by
      intro k
      induction k with
      | zero => intro _; rfl
      | succ k ih =>
        intro hk; rw [U4, ih (by omega)]
        have hr : t.getD k 0 = -1 ↔ k = r := by
          constructor
          · intro he; rcases h.inv.kind k (by omega) with h1 | h1 | ⟨z, hz⟩
            · rw [show t.getD k 0 = A7 t k from rfl, h1] at he; omega
            · exact h1
            · rw [show t.getD k 0 = A7 t k from rfl, hz] at he; omega
          · rintro rfl; exact h.inv.top
        by_cases hkr : k = r
        · subst hkr; rw [if_neg (by omega), if_pos (hr.2 rfl), if_pos (by omega)]
        · rw [if_neg (fun e => hkr (hr.1 e))]
          by_cases h2 : r < k
          · rw [if_pos h2, if_pos (by omega)]
          · rw [if_neg h2, if_neg (by omega)]
    rw [h.len, key n (Nat.le_refl _), if_pos o.hr]
theorem DomTree.meet (h : DomTree S r n P t) (o : Ordered S r n P) {a b : Nat} (ha : a < n) (hb : b < n) (hpa : A7 t a ≠ -2) (hpb : A7 t b ≠ -2) : ∃ m : Nat, Lq t (a : Int) (b : Int) = (m : Int) ∧ MeetAt (A7 t) a b m ∧ m < n ∧ A7 t m ≠ -2 := by
  have rd : Ready S r n P t P.length := ⟨h.inv, h.len, fun x hx => by rw [List.take_length] at hx; exact h.full x (o.lt hx) ((o.mem x).1 hx)⟩; obtain ⟨c, hc1, hc2, hc3⟩ := h.inv.meets (rd.inj o) pos_root _ a b (Nat.le_refl _) ha hb hpa hpb; refine ⟨c, ?_, hc1, hc2, hc3⟩; unfold Lq; rw [if_pos (h.right o)]; obtain ⟨hca, hcb⟩ := (hc1 c).1 (.refl _)
  have hin : ∀ z : Nat, (Gb t (b : Int)).contains (z : Int) = true ↔ UpTo (A7 t) b z := fun z => by
    rw [List.contains_iff_mem, (h.path o hb hpb).2.1]
    constructor
    · rintro ⟨y, hy, hu⟩; cases Int.ofNat.inj hy; exact hu
    · intro hu; exact ⟨z, rfl, hu⟩
  rcases (h.path o ha hpa).2.2 fun x => (Gb t (b : Int)).contains x with ⟨_, h2⟩ | ⟨f, h1, h2, h3, h4⟩
  · have := h2 c hca; rw [(hin c).2 hcb] at this
    cases this
  · rw [h1]; have hfc := h4 c hca ((hin c).2 hcb); have hcf := (hc1 f).2 ⟨h2, (hin f).1 h3⟩; rw [h.inv.antisymm hcf hfc hc2 hc3]
    rfl
theorem DomTree.meet_none (h : DomTree S r n P t) (o : Ordered S r n P) {a b : Nat} (ha : a < n) (hb : b < n) (hp : A7 t a = -2 ∨ A7 t b = -2) : Lq t (a : Int) (b : Int) = -2 := by
  unfold Lq; rw [if_pos (h.right o)]; rcases hp with hp | hp
  · rw [h.nopath ha hp]; rfl
  · rw [h.nopath hb hp]
    have : (Gb t (a : Int)).find? (fun x => ([] : List Int).contains x) = none := List.find?_eq_none.2 fun x _ => by simp
    rw [this]; rfl
theorem DomTree.over (h : DomTree S r n P t) (o : Ordered S r n P) {a b : Nat} (ha : a < n) (hb : b < n) : Ig t (a : Int) (b : Int) = true ↔ A7 t b ≠ -2 ∧ UpTo (A7 t) b a := by
  unfold Ig; rw [Bool.and_eq_true, beq_iff_eq, bne_iff_ne]
  by_cases hpa : A7 t a = -2
  · rw [h.meet_none o ha hb (.inl hpa)]
    constructor
    · rintro ⟨h1, _⟩; omega
    · rintro ⟨h1, h2⟩; exact absurd hpa (h.inv.anc h2 hb h1).2.1
  · by_cases hpb : A7 t b = -2
    · rw [h.meet_none o ha hb (.inr hpb)]
      constructor
      · rintro ⟨h1, _⟩; omega
      · rintro ⟨h1, _⟩; exact absurd hpb h1
    · obtain ⟨m, hm1, hm2, hm3, hm4⟩ := h.meet o ha hb hpa hpb; rw [hm1]
      constructor
      · rintro ⟨h1, _⟩; have h1 := Int.ofNat.inj h1; subst h1; exact ⟨hpb, ((hm2 _).1 (.refl _)).2⟩
      · rintro ⟨_, h2⟩; have := (hm2 a).2 ⟨.refl _, h2⟩; have h3 := ((hm2 m).1 (.refl _)).1; rw [h.inv.antisymm h3 this ha hpa]; exact ⟨rfl, by omega⟩
theorem DomTree.over_dom (h : DomTree S r n P t) (o : Ordered S r n P) {a b : Nat} (ha : a < n) (hb : b < n) : Ig t (a : Int) (b : Int) = true ↔ Rc S r b ∧ ¬ Av S r a b := by
  rw [h.over o ha hb]
  constructor
  · rintro ⟨h1, h2⟩; exact ⟨h.inv.rc b hb h1, (h.exact_ b hb h1 a).1 h2⟩
  · rintro ⟨h1, h2⟩; have := h.full b hb h1; exact ⟨this, (h.exact_ b hb this a).2 h2⟩
theorem DomTree.in_iff (h : DomTree S r n P t) {x : Nat} (hx : x < n) : A7 t x ≠ -2 ↔ Rc S r x := ⟨h.inv.rc x hx, h.full x hx⟩
end
section
variable {L : List (List Int)} (hm : Ec L = true) {r : Nat} (hr : r < L.length)
include hm hr
theorem Xs : ∃ P, Ord (sN L) r (r :: P) ∧ Ordered (sN L) r L.length P ∧ DomTree (sN L) r L.length P (Hk L r) := by
  obtain ⟨O, hO⟩ := Ord.exist (K9 hm) hr; obtain ⟨P, rfl, o⟩ := hO.ordered hr (K9 hm); obtain ⟨J, _, hJ⟩ := stops o; have hd := Sv o hJ; refine ⟨P, hO, o, ?_⟩; rw [← hd.eq hm hr o]; exact hd
end
end
end Go.Proofs.Ytjdddniaokcgnaa

namespace Go.Proofs.Ytjdddniaokcgnaa
noncomputable section
open Go Go.RowKit
set_option linter.unusedVariables false
set_option linter.unusedSimpArgs false
def Jr (L : List (List Int)) (s : Nat → Bool) (i : Nat) : Bool := (List.range L.length).any fun j => (Gd L i (-1)).getD j false && s j
def goesE (L : List (List Int)) : Nat → Nat → Bool
  | 0 => fun k => (L.getD k []).isEmpty
  | m + 1 => fun k => goesE L m k || (decide (k = m) && !Jr L (goesE L m) m)
def Eo (L : List (List Int)) (s : Nat → Bool) (k : Nat) : List Int := L.getD k [] ++ (if s k = true then [(L.length : Int)] else [])
def withE (L : List (List Int)) (s : Nat → Bool) : List (List Int) := (List.range L.length).map (Eo L s) ++ [[]]
def exitL (L : List (List Int)) : List (List Int) := withE L (goesE L L.length)
section
variable {L : List (List Int)}
theorem F3 {s : Nat → Bool} : (withE L s).length = L.length + 1 := by simp [withE]
theorem Iq : (exitL L).length = L.length + 1 := F3
theorem Qz {s : Nat → Bool} {k : Nat} (hk : k < L.length) : (withE L s).getD k [] = Eo L s k := by
  unfold withE; rw [List.getD_eq_getElem?_getD, List.getElem?_append_left (by simpa using hk), ← List.getD_eq_getElem?_getD, Ht hk]
theorem withE_last {s : Nat → Bool} : (withE L s).getD L.length [] = [] := by
  unfold withE; rw [List.getD_eq_getElem?_getD, List.getElem?_append_right (by simp)]
  simp
theorem Xw {s : Nat → Bool} {k : Nat} (hk : L.length ≤ k) : (withE L s).getD k [] = [] := by
  by_cases e : k = L.length
  · rw [e, withE_last]
  · rw [List.getD_eq_getElem?_getD, List.getElem?_eq_none (by rw [F3]; omega)]; rfl
theorem F2 (hm : Ec L = true) (hn : L.length < 64) (s : Nat → Bool) : Ec (withE L s) = true := by
  obtain ⟨h1, h2, h3⟩ := mayS_iff.1 hm; refine mayS_iff.2 ⟨by rw [F3]; omega, by rw [F3]; omega, fun i hi => ?_⟩; rw [F3] at hi
  by_cases e : i < L.length
  · rw [Qz e, F3]; unfold Eo; have hok := h3 i e; refine okL_of (fun x hx => ?_) ?_
    · rcases List.mem_append.1 hx with hx | hx
      · have := K3 hok hx; omega
      · split at hx
        · rw [List.mem_singleton.1 hx]; omega
        · cases hx
    · refine List.pairwise_append.2 ⟨Aag hok, by split <;> simp, fun a ha b hb => ?_⟩; have := K3 hok ha
      split at hb
      · rw [List.mem_singleton.1 hb]; omega
      · cases hb
  · rw [Xw (by omega)]
    rfl
theorem Ir (hm : Ec L = true) {s : Nat → Bool} {k y : Nat} : y ∈ sN (withE L s) k ↔ k < L.length ∧ (y ∈ sN L k ∨ (s k = true ∧ y = L.length)) := by
  unfold sN
  by_cases e : k < L.length
  · rw [Qz e]; unfold Eo; rw [List.map_append, List.mem_append]
    constructor
    · rintro (h | h)
      · exact ⟨e, .inl h⟩
      · split at h
        · rename_i hs
          rw [List.map_singleton, List.mem_singleton, An] at h; exact ⟨e, .inr ⟨hs, h⟩⟩
        · cases h
    · rintro ⟨_, h | ⟨h1, h2⟩⟩
      · exact .inl h
      · refine .inr ?_; rw [if_pos h1, List.map_singleton, List.mem_singleton, An]; exact h2
  · rw [Xw (by omega)]
    constructor
    · intro h; cases h
    · rintro ⟨h, _⟩; exact absurd h e
theorem J1 (hm : Ec L = true) {s : Nat → Bool} {i : Nat} (hi : i < L.length) : Jr L s i = true ↔ ∃ j, j < L.length ∧ Rc (sN L) i j ∧ s j = true := by
  unfold Jr; rw [List.any_eq_true]
  constructor
  · rintro ⟨j, hj, h⟩; rw [Bool.and_eq_true, M9 hm hi] at h; exact ⟨j, List.mem_range.1 hj, h⟩
  · rintro ⟨j, hj, h⟩; refine ⟨j, List.mem_range.2 hj, ?_⟩; rw [Bool.and_eq_true, M9 hm hi]; exact h
theorem goesE_mono {m k : Nat} (h : goesE L m k = true) : ∀ d, goesE L (m + d) k = true := by
  intro d
  induction d with
  | zero => exact h
  | succ d ih =>
    show (goesE L (m + d) k || _) = true
    rw [ih, Bool.true_or]
theorem Aa6 {m m' k : Nat} (hm : m ≤ m') (h : goesE L m k = true) : goesE L m' k = true := by
  have := goesE_mono h (m' - m); rwa [show m + (m' - m) = m' by omega] at this
theorem all_hit (hm : Ec L = true) {i : Nat} (hi : i < L.length) : ∃ j, j < L.length ∧ Rc (sN L) i j ∧ goesE L L.length j = true := by
  cases hh : Jr L (goesE L i) i with
  | true =>
    obtain ⟨j, h1, h2, h3⟩ := (J1 hm hi).1 hh; exact ⟨j, h1, h2, Aa6 (by omega) h3⟩
  | false =>
    refine ⟨i, hi, .root, Aa6 (m := i + 1) (by omega) ?_⟩
    show (goesE L i i || (decide (i = i) && !Jr L (goesE L i) i)) = true
    rw [hh, decide_eq_true rfl]
    simp
theorem Abj (hm : Ec L = true) {s : Nat → Bool} {i j : Nat} (hi : i < L.length) (h : Rc (sN L) i j) : Rc (sN (withE L s)) i j ∧ j < L.length := by
  induction h with
  | root => exact ⟨.root, hi⟩
  | step _ hy ih => exact ⟨.step ih.1 ((Ir hm).2 ⟨ih.2, .inl hy⟩), K9 hm _ ih.2 _ hy⟩
theorem Qo (hm : Ec L = true) {b : Nat} (hb : b ≤ L.length) : Rc (sN (exitL L)) b L.length := by
  by_cases e : b = L.length
  · rw [e]; exact .root
  · obtain ⟨j, h1, h2, h3⟩ := all_hit hm (i := b) (by omega); exact .step (Abj hm (by omega) h2).1 ((Ir hm).2 ⟨h1, .inr ⟨h3, rfl⟩⟩)
end
section
variable {S T : Nat → List Nat}
theorem Rc.front {a b c : Nat} (h : b ∈ S a) (k : Rc S b c) : Rc S a c := by
  induction k with
  | root => exact .step .root h
  | step _ hy ih => exact .step ih hy
theorem Av.front {z a b c : Nat} (ha : a ≠ z) (h : b ∈ S a) (k : Av S b z c) : Av S a z c := by
  induction k with
  | root hb => exact .step (.root ha) h hb
  | step _ hy hz ih => exact .step ih hy hz
variable (hT : ∀ x y, y ∈ T x → x ∈ S y)
include hT
theorem Rc.turn {a b : Nat} (h : Rc T a b) : Rc S b a := by
  induction h with
  | root => exact .root
  | step _ hy ih => exact .front (hT _ _ hy) ih
theorem Av.turn {z a b : Nat} (h : Av T a z b) : Av S b z a := by
  induction h with
  | root h => exact .root h
  | step _ hy hz ih => exact .front hz (hT _ _ hy) ih
end
section
variable {L : List (List Int)} (hm : Ec L = true)
include hm
theorem W9 {x y : Nat} (hx : x < L.length) : y ∈ sN (Bk L) x ↔ y < L.length ∧ x ∈ sN L y := by
  have hmem : ∀ z : Int, z ∈ (Bk L).getD x [] ↔ ∃ p : Nat, z = (p : Int) ∧ p < L.length ∧ F9 L p x = true := fun z => by
    rw [H3 hx]; unfold Eb; rw [mem_filt]
  have hs : ∀ p, p < L.length → (x ∈ sN L p ↔ F9 L p x = true) := fun p hp => by
    rw [goes_iff]; obtain ⟨_, _, h3⟩ := mayS_iff.1 hm
    constructor
    · intro h; obtain ⟨z, hz, rfl⟩ := List.mem_map.1 h; have := K3 (h3 p hp) hz; rw [Int.toNat_of_nonneg this.1]; exact hz
    · intro h; exact List.mem_map.2 ⟨_, h, An x⟩
  constructor
  · intro h; obtain ⟨z, hz, rfl⟩ := List.mem_map.1 h; obtain ⟨p, rfl, h1, h2⟩ := (hmem z).1 hz; rw [An]; exact ⟨h1, (hs p h1).2 h2⟩
  · rintro ⟨h1, h2⟩; exact List.mem_map.2 ⟨(y : Int), (hmem _).2 ⟨y, rfl, h1, (hs y h1).1 h2⟩, An y⟩
theorem sN_in {x y : Nat} (h : y ∈ sN L x) : x < L.length := by
  have _hm := hm
  by_cases e : x < L.length
  · exact e
  · unfold sN at h; rw [List.getD_eq_getElem?_getD, List.getElem?_eq_none (by omega)] at h; cases h
theorem Z2 : ∀ x y, y ∈ sN (Bk L) x → x ∈ sN L y := fun x y h => by
  have hx : x < L.length := by have := sN_in (Oz hm) h; rwa [Dg] at this
  exact ((W9 hm hx).1 h).2
theorem Xx : ∀ x y, y ∈ sN L x → x ∈ sN (Bk L) y := fun x y h => by
  have hx := sN_in hm h; exact (W9 hm (K9 hm x hx y h)).2 ⟨hx, h⟩
theorem Qe {a b : Nat} : Rc (sN (Bk L)) a b ↔ Rc (sN L) b a := ⟨fun h => h.turn (Z2 hm), fun h => h.turn (Xx hm)⟩
theorem av_turn {z a b : Nat} : Av (sN (Bk L)) a z b ↔ Av (sN L) b z a := ⟨fun h => h.turn (Z2 hm), fun h => h.turn (Xx hm)⟩
end
end
end Go.Proofs.Ytjdddniaokcgnaa

namespace Go.Proofs.Ytjdddniaokcgnaa
noncomputable section
open Go Go.RowKit
set_option linter.unusedVariables false
set_option linter.unusedSimpArgs false
section
variable {L : List (List Int)}
theorem H5 {s s' : Nat → Bool} (h : ∀ k, k < L.length → s k = s' k) : withE L s = withE L s' := by
  unfold withE; rw [Dp fun k hk => (show Eo L s k = Eo L s' k by unfold Eo; rw [h k hk])]
theorem withE_none : withE L (fun _ => false) = L ++ [[]] := by
  unfold withE
  congr 1
  refine List.ext_getElem (by simp) fun i h1 h2 => ?_; rw [List.getElem_map, List.getElem_range]; unfold Eo; rw [if_neg (by simp), List.append_nil, As _ _ _ h2]
def W3 (s : Nat → Bool) (i : Nat) : Nat → Bool := fun k => s k || decide (k = i)
theorem withE_set {s : Nat → Bool} {i : Nat} (hi : i < L.length) (hs : s i = false) : (withE L s).set i ((withE L s).getD i [] ++ [(L.length : Int)]) = withE L (W3 s i) := by
  rw [Qz hi]
  have e : Eo L s i ++ [(L.length : Int)] = Eo L (W3 s i) i := by
    unfold Eo W3; rw [hs, if_neg (by simp), if_pos (by simp), List.append_nil]
  rw [e]; unfold withE; rw [List.set_append_left _ _ (by simpa using hi), Jm]
  congr 1
  refine Dp fun j hj => ?_
  by_cases e : j = i
  · subst e; rw [if_pos rfl]
  · rw [if_neg e]; unfold Eo W3; rw [decide_eq_false e, Bool.or_false]
variable (hm : Ec L = true) (hn : L.length < 64)
include hm hn
theorem Uo {s : Nat → Bool} {i : Nat} (hi : i < L.length) (hs : s i = false) : C7 (gOf (withE L s)) (i : Int) = some (gOf (withE L (W3 s i))) := by
  have hroom : (1000 : Nat) ≤ room := by decide
  have hx := F2 hm hn s; have hl := F3 (L := L) (s := s); obtain ⟨_, _, hok⟩ := mayS_iff.1 hx; have hg : (gOf (withE L s)).Succ = withE L s := rfl; unfold C7; simp only [hg, hl]; rw [Ae ⟨by omega, by omega, by omega⟩, An]
  have hloop : Aw (Cf (gOf (withE L s))) ((0 : Int), List.replicate (L.length + 1) ([] : List Int)) = some (withE L s) := by
    have e0 : List.replicate (L.length + 1) ([] : List Int) = (List.range (L.length + 1)).map fun j => if j < 0 then (withE L s).getD j [] else [] := by
      refine List.ext_getElem (by simp) fun i g1 g2 => by simp
    have e1 : withE L s = (List.range (L.length + 1)).map fun j => if j < L.length + 1 then (withE L s).getD j [] else [] := by
      refine List.ext_getElem (by simp [hl]) fun i g1 g2 => ?_; rw [List.getElem_map, List.getElem_range, if_pos (by simpa using g2), As _ _ _ g1]
    rw [e0]
    conv => rhs; rw [e1]
    refine Cy (Cf (gOf (withE L s))) (fun m => (((m : Nat) : Int), (List.range (L.length + 1)).map fun j => if j < m then (withE L s).getD j [] else [])) _ (L.length + 1) (fun m hmm => ?_) ?_
    · show Cf _ ((m : Int), _) = _
      unfold Cf
      have hrl : ((withE L s).getD m []).length ≤ 64 := by have := Jy (hok m (by omega)); omega
      simp only [hg, An, List.length_map, List.length_range]; rw [Cb hmm, cond_true, Ae (De hmm), Ae (De (by rw [hl]; exact hmm)), Ae (by simp only [List.length_nil]; omega), Ae (De hmm), w1 (by omega), List.nil_append, Jm]
      congr 3
      refine Dp fun j hj => ?_
      by_cases e : j = m
      · subst e; rw [if_pos rfl, if_pos (by omega)]
      · rw [if_neg e]
        by_cases e2 : j < m
        · rw [if_pos e2, if_pos (by omega)]
        · rw [if_neg e2, if_neg (by omega)]
    · show Cf _ (((L.length + 1 : Nat) : Int), _) = _
      unfold Cf; simp only [List.length_map, List.length_range, Dh, cond_false]
  rw [hloop, Option.bind_some]
  have hil : i < (withE L s).length := by rw [hl]; omega
  have hrl : ((withE L s).getD i []).length ≤ 64 := by have := Jy (hok i hil); omega
  have hw : Bi (((withE L s).length : Int) - 1) = (L.length : Int) := by rw [hl, Kd (by omega) (by omega)]; omega
  rw [Ae (De hil), Ae (De hil)]; simp only [An, hw]
  have hmk : C4 (withE L (W3 s i)) = some (gOf (withE L (W3 s i)), 0) := by
    rw [Pu _ (G4 (Fk (F2 hm hn _))), F2 hm hn]; rfl
  rw [Ae (by simp only [List.length_cons, List.length_nil]; omega), Ae (De hil), withE_set hi hs, hmk]
  rfl
theorem reach_exit {s : Nat → Bool} {i : Nat} (hi : i < L.length) : (Gd (withE L s) i (-1)).getD L.length false = Jr L s i := by
  have hx := F2 hm hn s; rw [Bool.eq_iff_iff, M9 hx (by rw [F3]; omega), J1 hm hi]
  constructor
  · intro h
    have key : ∀ x, Rc (sN (withE L s)) i x → (x < L.length ∧ Rc (sN L) i x) ∨ (x = L.length ∧ ∃ j, j < L.length ∧ Rc (sN L) i j ∧ s j = true) := by
      intro x h
      induction h with
      | root => exact .inl ⟨hi, .root⟩
      | step _ hy ih =>
        obtain ⟨h1, h2⟩ := (Ir hm).1 hy; rcases ih with ⟨h3, h4⟩ | ⟨h3, _⟩
        · rcases h2 with h2 | ⟨h2, rfl⟩
          · exact .inl ⟨K9 hm _ h1 _ h2, .step h4 h2⟩
          · exact .inr ⟨rfl, _, h1, h4, h2⟩
        · omega
    rcases key _ h with ⟨h1, _⟩ | ⟨_, h1⟩
    · omega
    · exact h1
  · rintro ⟨j, h1, h2, h3⟩; exact .step (Abj hm hi h2).1 ((Ir hm).2 ⟨h1, .inr ⟨h3, rfl⟩⟩)
end
theorem m_ref_exit (g : TGraph) (h1 : Fits g.Succ) : E4 g = some (if Hn g = true ∧ g.Succ.length < 64 then (gOf (exitL g.Succ), 0) else (g0, 5)) := by
  have hroom : (1000 : Nat) ≤ room := by decide
  unfold E4; rw [Xg _ h1, Option.bind_some]
  cases hG : Hn g with
  | false => rw [if_neg (by simp)]; rfl
  | true =>
    obtain ⟨hm, hg⟩ := J4 hG
    by_cases hn : g.Succ.length < 64
    · rw [if_pos ⟨rfl, hn⟩]; obtain ⟨hL1, _, hok⟩ := mayS_iff.1 hm
      rw [Bool.not_true, cond_false, decide_eq_false (show ¬ ((64 : Int) ≤ (g.Succ.length : Int)) by omega), cond_false, Ae (by simp only [List.length_nil]; omega), Ae (by simp only [List.nil_append, List.length_cons, List.length_nil]; omega), List.nil_append, ← withE_none,
        Pu _ (G4 (Fk (F2 hm hn _))), F2 hm hn, cond_true, Option.bind_some]
      have l1 : Aw (Ce g) ((0 : Int), (gOf (withE g.Succ fun _ => false)).Succ, (gOf (withE g.Succ fun _ => false)).Pred) = some ((gOf (withE g.Succ (goesE g.Succ 0))).Succ, (gOf (withE g.Succ (goesE g.Succ 0))).Pred) := by
        have e0 : withE g.Succ (fun _ => false) = withE g.Succ (fun k => decide (k < 0) && goesE g.Succ 0 k) := H5 fun k hk => by simp
        have e1 : withE g.Succ (goesE g.Succ 0) = withE g.Succ (fun k => decide (k < g.Succ.length) && goesE g.Succ 0 k) := H5 fun k hk => by rw [decide_eq_true hk, Bool.true_and]
        rw [e0, e1]; refine Cy (Ce g) (fun m => (((m : Nat) : Int), (gOf (withE g.Succ (fun k => decide (k < m) && goesE g.Succ 0 k))).Succ, (gOf (withE g.Succ (fun k => decide (k < m) && goesE g.Succ 0 k))).Pred)) _ g.Succ.length (fun m hmm => ?_) ?_
        · show Ce g ((m : Int), _, _) = _
          unfold Ce; simp only [Cb hmm, cond_true, An]; rw [Ae (De hmm)]
          have hemp : (((g.Succ.getD m []).length : Int) == 0) = goesE g.Succ 0 m := by
            show _ = (g.Succ.getD m []).isEmpty
            cases g.Succ.getD m [] with
            | nil => rfl
            | cons x l => exact beq_eq_false_iff_ne.2 (by simp only [List.length_cons]; omega)
          rw [hemp]
          cases hgo : goesE g.Succ 0 m with
          | true =>
            have hw := Uo hm hn hmm (s := fun k => decide (k < m) && goesE g.Succ 0 k) (by simp)
            have e2 : withE g.Succ (W3 (fun k => decide (k < m) && goesE g.Succ 0 k) m) = withE g.Succ (fun k => decide (k < m + 1) && goesE g.Succ 0 k) := H5 fun k hk => by
              unfold W3
              by_cases e : k = m
              · subst e; simp [hgo]
              · rw [decide_eq_false e, Bool.or_false]
                show (decide (k < m) && _) = _
                rw [decide_eq_decide.2 (show k < m ↔ k < m + 1 by omega)]
            rw [e2] at hw; rw [cond_true]
            show (Option.bind (Option.bind (C7 (gOf (withE g.Succ fun k => decide (k < m) && goesE g.Succ 0 k)) (m : Int)) _) _) = _
            rw [hw]; simp only [Option.bind_some, w1 (show m < 4611686018427387904 by omega)]
          | false =>
            have e2 : withE g.Succ (fun k => decide (k < m + 1) && goesE g.Succ 0 k) = withE g.Succ (fun k => decide (k < m) && goesE g.Succ 0 k) := H5 fun k hk => by
              by_cases e : k = m
              · subst e; simp [hgo]
              · rw [decide_eq_decide.2 (show k < m + 1 ↔ k < m by omega)]
            rw [e2]; simp only [cond_false, Option.bind_some, w1 (show m < 4611686018427387904 by omega)]
        · show Ce g (_, _, _) = _
          unfold Ce; simp only [Dh, cond_false]
      have l2 : Aw (Ci g) ((0 : Int), (gOf (withE g.Succ (goesE g.Succ 0))).Succ, (gOf (withE g.Succ (goesE g.Succ 0))).Pred) = some ((gOf (exitL g.Succ)).Succ, (gOf (exitL g.Succ)).Pred) := by
        refine Cy (Ci g) (fun m => (((m : Nat) : Int), (gOf (withE g.Succ (goesE g.Succ m))).Succ, (gOf (withE g.Succ (goesE g.Succ m))).Pred)) _ g.Succ.length (fun m hmm => ?_) ?_
        · show Ci g ((m : Int), _, _) = _
          unfold Ci; simp only [Cb hmm, cond_true, An]; have hR : Bp (⟨(gOf (withE g.Succ (goesE g.Succ m))).Succ, (gOf (withE g.Succ (goesE g.Succ m))).Pred⟩ : TGraph) (m : Int) (-1 : Int) = some (Gd (withE g.Succ (goesE g.Succ m)) m (-1)) := N7 (F2 hm hn _) (by rw [F3]; omega) (-1); rw [hR, Option.bind_some, Ae (De (by rw [Ko, F3]; omega)), reach_exit hm hn hmm]
          cases hh : Jr g.Succ (goesE g.Succ m) m with
          | true =>
            have e2 : withE g.Succ (goesE g.Succ (m + 1)) = withE g.Succ (goesE g.Succ m) := H5 fun k hk => by
              show (goesE g.Succ m k || (decide (k = m) && !Jr g.Succ (goesE g.Succ m) m)) = _
              rw [hh]; simp
            rw [e2]; simp only [Bool.not_true, cond_false, Option.bind_some, w1 (show m < 4611686018427387904 by omega)]
          | false =>
            have hsm : goesE g.Succ m m = false := by
              cases h : goesE g.Succ m m with
              | false => rfl
              | true => rw [(J1 hm hmm).2 ⟨m, hmm, .root, h⟩] at hh; cases hh
            have hw := Uo hm hn hmm hsm
            have e2 : withE g.Succ (W3 (goesE g.Succ m) m) = withE g.Succ (goesE g.Succ (m + 1)) := H5 fun k hk => by
              show (goesE g.Succ m k || decide (k = m)) = (goesE g.Succ m k || (decide (k = m) && !Jr g.Succ (goesE g.Succ m) m))
              rw [hh]; simp
            rw [e2] at hw; rw [Bool.not_false, cond_true]
            show (Option.bind (Option.bind (C7 (gOf (withE g.Succ (goesE g.Succ m))) (m : Int)) _) _) = _
            rw [hw]; simp only [Option.bind_some, w1 (show m < 4611686018427387904 by omega)]
        · show Ci g (_, _, _) = _
          unfold Ci; simp only [Dh, cond_false]
          rfl
      rw [l1, Option.bind_some]; simp only [l2, Option.bind_some]
    · rw [if_neg (fun h => hn h.2), Bool.not_true, cond_false, decide_eq_true (show ((64 : Int) ≤ (g.Succ.length : Int)) by omega)]
      rfl
end
end Go.Proofs.Ytjdddniaokcgnaa

namespace Go.Proofs.Ytjdddniaokcgnaa
noncomputable section
open Go Go.RowKit
set_option linter.unusedVariables false
set_option linter.unusedSimpArgs false
def Mq (L : List (List Int)) (k b : Nat) : Bool := !(Gd (exitL L) b (k : Int)).getD L.length false
def La (L : List (List Int)) (k a b : Nat) : Bool := decide (1 < ((exitL L).getD a []).length) && ((L.getD a []).contains (b : Int) && (Mq L k b && (decide (k = a) || !Mq L k a)))
def Fg (L : List (List Int)) (k a m : Nat) : List TDep := ((List.range m).filter (La L k a)).map fun b => ⟨(k : Int), (a : Int), ((b : Nat) : Int)⟩
def Js (L : List (List Int)) (k m : Nat) : List TDep := ((List.range m).map fun a => Fg L k a L.length).flatten
def Rf (L : List (List Int)) (m : Nat) : List TDep := ((List.range m).map fun k => Js L k L.length).flatten
def Yy (L : List (List Int)) : List TDep := Rf L L.length
def depG (g : TGraph) : List TDep := if Hn g = true ∧ g.Succ.length < 64 then Yy g.Succ else []
section
variable {L : List (List Int)}
theorem Abl (k a m : Nat) : Fg L k a (m + 1) = Fg L k a m ++ (if La L k a m = true then [⟨(k : Int), (a : Int), ((m : Nat) : Int)⟩] else []) := by
  unfold Fg; rw [List.range_succ, List.filter_append, List.map_append]
  congr 1
  by_cases h : La L k a m = true
  · rw [if_pos h]; simp [h]
  · rw [if_neg h]; simp [h]
theorem Vv (k a m : Nat) : (Fg L k a m).length ≤ m := by
  unfold Fg; rw [List.length_map]; exact Nat.le_trans (List.length_filter_le ..) (by simp)
theorem depOn_succ (k m : Nat) : Js L k (m + 1) = Js L k m ++ Fg L k m L.length := by
  unfold Js; rw [List.range_succ, List.map_append, List.flatten_append]
  simp
theorem X2 (k m : Nat) : (Js L k m).length ≤ m * L.length := by
  have := V0 (List.range m) (fun a => Fg L k a L.length) L.length fun a _ => Vv k a _; rw [List.length_range] at this; exact this
theorem depTo_succ (m : Nat) : Rf L (m + 1) = Rf L m ++ Js L m L.length := by
  unfold Rf; rw [List.range_succ, List.map_append, List.flatten_append]
  simp
theorem Xh (m : Nat) : (Rf L m).length ≤ m * (L.length * L.length) := by
  have := V0 (List.range m) (fun k => Js L k L.length) (L.length * L.length) fun k _ => X2 k _; rw [List.length_range] at this; exact this
theorem mem_depL {d : TDep} : d ∈ Yy L ↔ ∃ k a b : Nat, d = ⟨(k : Int), (a : Int), (b : Int)⟩ ∧ k < L.length ∧ a < L.length ∧ b < L.length ∧ La L k a b = true := by
  unfold Yy Rf Js Fg; simp only [List.mem_flatten, List.mem_map, List.mem_range]
  constructor
  · rintro ⟨_, ⟨k, hk, rfl⟩, hd⟩; simp only [List.mem_flatten, List.mem_map, List.mem_range] at hd; obtain ⟨_, ⟨a, ha, rfl⟩, hd⟩ := hd; obtain ⟨b, hb, rfl⟩ := List.mem_map.1 hd; obtain ⟨h1, h2⟩ := List.mem_filter.1 hb; exact ⟨k, a, b, rfl, hk, ha, List.mem_range.1 h1, h2⟩
  · rintro ⟨k, a, b, rfl, hk, ha, hb, h⟩; refine ⟨_, ⟨k, hk, rfl⟩, ?_⟩; simp only [List.mem_flatten, List.mem_map, List.mem_range]; exact ⟨_, ⟨a, ha, rfl⟩, List.mem_map.2 ⟨b, List.mem_filter.2 ⟨List.mem_range.2 hb, h⟩, rfl⟩⟩
def Ib (L : List (List Int)) (a : Nat) : List Bool := (List.range L.length).map fun b => Mq L a b
def Tn (L : List (List Int)) : List (List Bool) := (List.range L.length).map fun a => Ib L a
theorem Z0 : (Tn L).length = L.length := by simp [Tn]
theorem povM_at {a : Nat} (ha : a < L.length) : (Tn L).getD a [] = Ib L a := by unfold Tn; rw [Ht ha]
theorem Pp {a : Nat} : (Ib L a).length = L.length := by simp [Ib]
theorem Xu {a b : Nat} (hb : b < L.length) : (Ib L a).getD b false = Mq L a b := by unfold Ib; rw [Ht hb]
variable (hm : Ec L = true) (hn : L.length < 64)
include hm hn
theorem pov_L1 (a : Nat) (l : List (List Bool)) (hl : l.length = L.length) (ha : a < L.length) : Aw (Cn (gOf L) (gOf (exitL L), 0) (a : Int) l) ((0 : Int), List.replicate L.length false) = some (Ib L a) := by
  have he := F2 hm hn (goesE L L.length); have hle := Iq (L := L); have hg : (gOf L).Succ = L := rfl
  have e0 : List.replicate L.length false = (List.range L.length).map fun b => if b < 0 then Mq L a b else false := by
    refine List.ext_getElem (by simp) fun i g1 g2 => by simp
  have e1 : Ib L a = (List.range L.length).map fun b => if b < L.length then Mq L a b else false := Dp fun b hb => by rw [if_pos hb]
  rw [e0, e1]; refine Cy (Cn (gOf L) (gOf (exitL L), 0) (a : Int) l) (fun m => (((m : Nat) : Int), (List.range L.length).map fun b => if b < m then Mq L a b else false)) _ L.length (fun m hmm => ?_) ?_
  · show Cn _ _ _ _ ((m : Int), _) = _
    unfold Cn; simp only [hg, Cb hmm, cond_true, An]; rw [Ae (De (by rw [hl]; exact ha)), N7 (L := exitL L) he (show m < (exitL L).length by rw [hle]; omega), Option.bind_some, Ae (De (by rw [Ko, hle]; omega)), Ae (De (by simpa using hmm)), w1 (by omega), Jm]
    congr 3
    refine Dp fun j hj => ?_
    by_cases e : j = m
    · subst e; rw [if_pos rfl, if_pos (by omega)]; rfl
    · rw [if_neg e]
      by_cases e2 : j < m
      · rw [if_pos e2, if_pos (by omega)]
      · rw [if_neg e2, if_neg (by omega)]
  · show Cn _ _ _ _ (_, _) = _
    unfold Cn; simp only [hg, Dh, cond_false]
theorem pov_L2 : Aw (Cr (gOf L) (gOf (exitL L), 0)) ((0 : Int), List.replicate L.length ([] : List Bool)) = some (Tn L) := by
  have hroom : (1000 : Nat) ≤ room := by decide
  have hg : (gOf L).Succ = L := rfl
  have e0 : List.replicate L.length ([] : List Bool) = (List.range L.length).map fun a => if a < 0 then Ib L a else [] := by
    refine List.ext_getElem (by simp) fun i g1 g2 => by simp
  have e1 : Tn L = (List.range L.length).map fun a => if a < L.length then Ib L a else [] := Dp fun b hb => by rw [if_pos hb]
  rw [e0, e1]; refine Cy (Cr (gOf L) (gOf (exitL L), 0)) (fun m => (((m : Nat) : Int), (List.range L.length).map fun a => if a < m then Ib L a else [])) _ L.length (fun m hmm => ?_) ?_
  · show Cr _ _ ((m : Int), _) = _
    unfold Cr; simp only [hg, Cb hmm, cond_true, An]; rw [Ae ⟨by omega, by omega, by omega⟩, Ae (De (by simpa using hmm)), pov_L1 hm hn m _ (by simp) hmm, Option.bind_some, w1 (by omega), Jm]
    congr 3
    refine Dp fun j hj => ?_
    by_cases e : j = m
    · subst e; rw [if_pos rfl, if_pos (by omega)]
    · rw [if_neg e]
      by_cases e2 : j < m
      · rw [if_pos e2, if_pos (by omega)]
      · rw [if_neg e2, if_neg (by omega)]
  · show Cr _ _ (_, _) = _
    unfold Cr; simp only [hg, Dh, cond_false]
theorem dep_L3 (k a : Nat) (l : List TDep) (hl : l.length ≤ 1000000) (hk : k < L.length) (ha : a < L.length) : Aw (B7 (gOf L) (gOf (exitL L), 0) (Tn L) (k : Int) (a : Int)) (l, (0 : Int)) = some (l ++ Fg L k a L.length) := by
  have hroom : (2000000 : Nat) ≤ room := by decide
  have hg : (gOf L).Succ = L := rfl; have hgE : (gOf (exitL L)).Succ = exitL L := rfl; have hle := Iq (L := L); have iE : A4 (a : Int) (exitL L).length := De (by rw [hle]; omega); obtain ⟨_, _, hok⟩ := mayS_iff.1 hm
  have hrl : (L.getD a []).length ≤ 64 := by have := Jy (hok a ha); omega
  by_cases h1 : 1 < ((exitL L).getD a []).length
  · have hd1 : decide ((1 : Int) < (((exitL L).getD a []).length : Int)) = true := decide_eq_true (by omega)
    refine Cy (B7 (gOf L) (gOf (exitL L), 0) (Tn L) (k : Int) (a : Int)) (fun m => (l ++ Fg L k a m, ((m : Nat) : Int))) _ L.length (fun m hmm => ?_) ?_ |> fun h => by
      have e : l ++ Fg L k a 0 = l := by simp [Fg]
      rw [e] at h; exact h
    · show B7 _ _ _ _ _ (_, (m : Int)) = _
      unfold B7; have hlen := Vv (L := L) k a m; simp only [hg, hgE, Cb hmm, cond_true, An, hd1, m_has _ _ (show (L.getD a []).length < 4611686018427387904 by omega), Option.bind_some, povM_at hk, povM_at ha]; have hpa : (Ib L k).getD a false = Mq L k a := Xu ha; have hpb : (Ib L k).getD m false = Mq L k m := Xu hmm; have hia : ∀ {p : Prop}, p → A4 (a : Int) (Ib L k).length := fun _ => De (by rw [Pp]; exact ha); rw [hpa, hpb, Ae (fun _ => iE), Ae (De ha), Ae (fun _ => De (by rw [Z0]; exact hk)), Ae (fun _ => De (by rw [Pp]; exact hmm)), Ae (fun _ => De (by rw [Z0]; exact hk)), Ae (fun _ => De (by rw [Pp]; exact ha)), T6]
      have hat : (bif (bif (bif (L.getD a []).contains (m : Int) then Mq L k m else false) then (bif decide (k = a) then true else !Mq L k a) else false) then Bw ((l ++ Fg L k a m).length + ([(⟨(k : Int), (a : Int), (m : Int)⟩ : TDep)] : List TDep).length ≤ room) (some ((l ++ Fg L k a m) ++ ([(⟨(k : Int), (a : Int), (m : Int)⟩ : TDep)] : List TDep))) else some (l ++ Fg L k a m)) = some (l ++ Fg L k a (m + 1)) := by
        have hval : La L k a m = (bif (bif (L.getD a []).contains (m : Int) then Mq L k m else false) then (bif decide (k = a) then true else !Mq L k a) else false) := by
          unfold La; rw [decide_eq_true h1, Bool.true_and]
          cases (L.getD a []).contains (m : Int) <;> cases Mq L k m <;> cases decide (k = a) <;> rfl
        rw [← hval, Abl]
        cases La L k a m with
        | true => rw [cond_true, Ae (by rw [List.length_append]; simp only [List.length_cons, List.length_nil]; omega), if_pos rfl, List.append_assoc]
        | false => rw [cond_false, if_neg (by simp), List.append_nil]
      rw [hat, Option.bind_some, w1 (by omega)]
    · show B7 _ _ _ _ _ (_, _) = _
      unfold B7; simp only [hg, Dh, cond_false]; rw [Ae (fun h => by cases h)]
  · have hrow : Fg L k a L.length = [] := by
      unfold Fg; rw [List.map_eq_nil_iff, List.filter_eq_nil_iff]; intro b _; unfold La; rw [decide_eq_false h1]
      simp
    rw [hrow, List.append_nil]
    apply A6
    unfold B7; have hd1 : decide ((1 : Int) < (((exitL L).getD a []).length : Int)) = false := decide_eq_false (by omega); simp only [hg, hgE, An, hd1]; rw [Ae (fun _ => iE)]
    cases decide ((0 : Int) < (L.length : Int)) <;> rfl
theorem dep_L4 (k : Nat) (l : List TDep) (hl : l.length ≤ 500000) (hk : k < L.length) : Aw (Co (gOf L) (gOf (exitL L), 0) (Tn L) (k : Int)) (l, (0 : Int)) = some (l ++ Js L k L.length) := by
  have hg : (gOf L).Succ = L := rfl
  refine Cy (Co (gOf L) (gOf (exitL L), 0) (Tn L) (k : Int)) (fun m => (l ++ Js L k m, ((m : Nat) : Int))) _ L.length (fun m hmm => ?_) ?_ |> fun h => by
    have e : l ++ Js L k 0 = l := by simp [Js]
    rw [e] at h; exact h
  · show Co _ _ _ _ (_, (m : Int)) = _
    unfold Co; have h1 := X2 (L := L) k m; have h2 : m * L.length ≤ 64 * 64 := Nat.mul_le_mul (by omega) (by omega); simp only [hg, Cb hmm, cond_true]; rw [dep_L3 hm hn k m _ (by rw [List.length_append]; omega) hk hmm, Option.bind_some, w1 (by omega), depOn_succ, List.append_assoc]
  · show Co _ _ _ _ (_, _) = _
    unfold Co; simp only [hg, Dh, cond_false]
theorem dep_L5 : Aw (Cq (gOf L) (gOf (exitL L), 0) (Tn L)) (([] : List TDep), (0 : Int)) = some (Yy L) := by
  have hg : (gOf L).Succ = L := rfl; refine Cy (Cq (gOf L) (gOf (exitL L), 0) (Tn L)) (fun m => (Rf L m, ((m : Nat) : Int))) _ L.length (fun m hmm => ?_) ?_
  · show Cq _ _ _ (_, (m : Int)) = _
    unfold Cq; have h1 := Xh (L := L) m; have h2 : m * (L.length * L.length) ≤ 64 * (64 * 64) := Nat.mul_le_mul (by omega) (Nat.mul_le_mul (by omega) (by omega)); simp only [hg, Cb hmm, cond_true]; rw [dep_L4 hm hn m _ (by omega) hmm, Option.bind_some, w1 (by omega), depTo_succ]
  · show Cq _ _ _ (_, _) = _
    unfold Cq; simp only [hg, Dh, cond_false]
    rfl
end
theorem X5 (g : TGraph) (h1 : Fits g.Succ) : Ek g = some (depG g) := by
  have hroom : (1000 : Nat) ≤ room := by decide
  unfold Ek depG; rw [m_ref_exit g h1, Option.bind_some]
  by_cases hc : Hn g = true ∧ g.Succ.length < 64
  · obtain ⟨hm, hg⟩ := J4 hc.1; rw [if_pos hc, if_pos hc]; have hb : ((0 : Int) != 0) = false := rfl; simp only [hb, cond_false]; rw [Ae ⟨by omega, by omega, by omega⟩, An]; have hL2 := pov_L2 hm hc.2; have hL5 := dep_L5 hm hc.2; rw [← hg] at hL2 hL5; rw [hL2, Option.bind_some, hL5]
    rfl
  · rw [if_neg hc, if_neg hc]
    rfl
end
end Go.Proofs.Ytjdddniaokcgnaa
